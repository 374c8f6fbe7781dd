package http

import (
	"strings"

	"covey/api"
)

// wait is what a feed waits for.
type wait int

// They stand in a message's order: from forBody on they are no more of the head.
const (
	forNothing  wait = iota // no more bytes: one was amiss
	forMessage              // a message's first byte
	forMethod               // a letter of the method, or the blank behind it
	forTarget               // a byte of the target, or the blank behind it
	forVersion              // a byte of the version, or what must stand right behind it
	forStatus               // a digit of the status, or the blank behind it
	forReason               // a byte of the reason, or its line's end
	forLine                 // the second byte of the end of the start line, of a header
	forHeader               // the first byte of a header, or of the empty line
	forName                 // a byte of a header's name, or what stands behind it
	forValue                // a byte of a header's value, or its line's end
	forHeadEnd              // the last byte of the head
	forBody                 // a byte of a body whose length is known
	forDigits               // a digit of a piece's length, or its line's end
	forDigitEnd             // the last byte of the line of those digits
	forPiece                // a byte of a piece
	forGap                  // the line's end behind a piece
	forGapEnd               // its second byte
	forClose                // the line's end behind the piece of no bytes
	forCloseEnd             // its second byte, the last of the message
)

// step is what is done with a byte; it answers what is amiss with that.
type step func(f *Feed, c byte) error

func stepFor(w wait) step {
	return [...]step{
		forMessage:  takeFirst,
		forMethod:   takeMethod,
		forTarget:   takeTarget,
		forVersion:  takeVersion,
		forStatus:   takeStatus,
		forReason:   takeReason,
		forLine:     takeLineEnd,
		forHeader:   takeHeader,
		forName:     takeName,
		forValue:    takeValue,
		forHeadEnd:  takeHeadEnd,
		forBody:     takeBody,
		forDigits:   takeDigits,
		forDigitEnd: takeDigitEnd,
		forPiece:    takePiece,
		forGap:      takeGap,
		forGapEnd:   takeGapEnd,
		forClose:    takeClose,
		forCloseEnd: takeCloseEnd,
	}[w]
}

func (f *Feed) await(w wait) { f.wait, f.take = w, stepFor(w) }

// next takes a byte: a head's length is held to its bound ahead of all else.
func (f *Feed) next(c byte) error {
	if f.wait < forBody {
		if f.head == api.MaxHead {
			return api.ErrLong
		}
		f.head++
	}
	return f.take(f, c)
}

// amiss is the error of a byte where the grammar goes on with another.
func (f *Feed) amiss() error {
	switch {
	case f.wait == forVersion:
		return api.ErrVersion
	case f.wait < forBody:
		return api.ErrSyntax
	}
	return api.ErrBody
}

// must takes the only byte that may stand here, and goes on to wait for another.
func (f *Feed) must(c, only byte, then wait) error {
	if c != only {
		return f.amiss()
	}
	f.await(then)
	return nil
}

// keep puts a byte behind those of the word that the feed stands in.
func (f *Feed) keep(c byte) { f.text = append(f.text, c) }

// word is what was kept; of it nothing is kept any more.
func (f *Feed) word() string {
	s := string(f.text)
	f.text = nil
	return s
}

// finish puts the message among those that are whole, and waits for another.
func (f *Feed) finish() {
	f.whole = append(f.whole, f.message)
	f.message, f.head = api.Message{}, 0
	f.await(forMessage)
}

func takeFirst(f *Feed, c byte) error {
	if f.answers {
		f.await(forVersion)
	} else {
		f.await(forMethod)
	}
	return f.take(f, c)
}

func takeMethod(f *Feed, c byte) error {
	switch {
	case isGreat(c) && len(f.text) < maxMethod:
		f.keep(c)
	case c == ' ' && len(f.text) > 0:
		f.message.Method = f.word()
		f.await(forTarget)
	default:
		return f.amiss()
	}
	return nil
}

func takeTarget(f *Feed, c byte) error {
	switch {
	case isTargetByte(c) && len(f.text) == api.MaxTarget:
		return api.ErrLong
	case isTargetByte(c):
		f.keep(c)
	case c == ' ' && len(f.text) > 0:
		f.message.Target = f.word()
		f.await(forVersion)
	default:
		return f.amiss()
	}
	return nil
}

func takeVersion(f *Feed, c byte) error {
	behind, then := byte('\r'), forLine
	if f.answers {
		behind, then = ' ', forStatus
	}
	if len(f.text) == len(version) {
		f.text = nil
		return f.must(c, behind, then)
	}
	if c != version[len(f.text)] {
		return f.amiss()
	}
	f.keep(c)
	return nil
}

func takeStatus(f *Feed, c byte) error {
	switch n := len(f.text); {
	case n == 0 && c >= '1' && c <= '5', (n == 1 || n == 2) && isDigit(c):
		f.keep(c)
	case n == 3 && c == ' ':
		f.message.Status = int(number(f.word(), 10))
		f.await(forReason)
	default:
		return f.amiss()
	}
	return nil
}

func takeReason(f *Feed, c byte) error {
	switch {
	case isReasonByte(c):
		f.keep(c)
	case c == '\r':
		f.message.Reason = f.word()
		f.await(forLine)
	default:
		return f.amiss()
	}
	return nil
}

func takeLineEnd(f *Feed, c byte) error { return f.must(c, '\n', forHeader) }

func takeHeader(f *Feed, c byte) error {
	if c == '\r' {
		f.await(forHeadEnd)
		return nil
	}
	if len(f.message.Headers) == api.MaxHeads {
		return api.ErrLong
	}
	f.await(forName)
	return f.take(f, c)
}

func takeName(f *Feed, c byte) error {
	switch {
	case isNameByte(c):
		f.keep(c)
	case c == ':' && len(f.text) > 0:
		f.message.Headers = append(f.message.Headers, api.Header{Name: f.word()})
		f.await(forValue)
	default:
		return f.amiss()
	}
	return nil
}

func takeValue(f *Feed, c byte) error {
	switch {
	case isValueByte(c):
		f.keep(c)
	case c == '\r':
		last := len(f.message.Headers) - 1
		f.message.Headers[last].Value = strings.Trim(f.word(), blanks)
		f.await(forLine)
	default:
		return f.amiss()
	}
	return nil
}

func takeHeadEnd(f *Feed, c byte) error {
	if c != '\n' {
		return f.amiss()
	}
	length, pieces, err := bodyOf(f.message.Headers)
	switch {
	case err != nil:
		return err
	case pieces:
		f.await(forDigits)
	case length > 0:
		f.left = length
		f.await(forBody)
	default:
		f.finish()
	}
	return nil
}

// bodyOf is the length of the body that follows such headers, or that it comes in pieces.
func bodyOf(headers []api.Header) (length int64, pieces bool, err error) {
	var tell api.Header
	count := 0
	for _, h := range headers {
		if tellsBody(h.Name) {
			tell = h
			count++
		}
	}
	switch {
	case count == 0:
		return 0, false, nil
	case count > 1:
		return 0, false, api.ErrBody
	case same(tell.Name, encodingName) && same(tell.Value, inPieces):
		return 0, true, nil
	case same(tell.Name, encodingName) || !isLength(tell.Value):
		return 0, false, api.ErrBody
	}
	length = number(tell.Value, 10)
	if length > api.MaxBody {
		return 0, false, api.ErrLong
	}
	return length, false, nil
}

func takeBody(f *Feed, c byte) error {
	f.addBody(c)
	if f.left == 0 {
		f.finish()
	}
	return nil
}

func (f *Feed) addBody(c byte) {
	f.message.Body = append(f.message.Body, c)
	f.left--
}

func takeDigits(f *Feed, c byte) error {
	switch {
	case isHexDigit(c) && len(f.text) < maxPieceDigits:
		f.keep(c)
	case c == '\r' && len(f.text) > 0:
		f.left = number(f.word(), 16)
		f.await(forDigitEnd)
	default:
		return f.amiss()
	}
	return nil
}

func takeDigitEnd(f *Feed, c byte) error {
	switch {
	case c != '\n':
		return f.amiss()
	case int64(len(f.message.Body))+f.left > api.MaxBody:
		return api.ErrLong
	case f.left == 0:
		f.await(forClose)
	default:
		f.await(forPiece)
	}
	return nil
}

func takePiece(f *Feed, c byte) error {
	f.addBody(c)
	if f.left == 0 {
		f.await(forGap)
	}
	return nil
}

func takeGap(f *Feed, c byte) error { return f.must(c, '\r', forGapEnd) }

func takeGapEnd(f *Feed, c byte) error { return f.must(c, '\n', forDigits) }

func takeClose(f *Feed, c byte) error { return f.must(c, '\r', forCloseEnd) }

func takeCloseEnd(f *Feed, c byte) error {
	if c != '\n' {
		return f.amiss()
	}
	f.finish()
	return nil
}

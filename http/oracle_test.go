package http_test

import (
	"fmt"
	"regexp"
	"strings"
	"unicode/utf8"

	"covey/api"
)

// The bytes that may stand in a word of the grammar, spelt out.
var (
	capitals = "ABCDEFGHIJKLMNOPQRSTUVWXYZ"
	digits   = "0123456789"
	hexes    = "0123456789abcdefABCDEF"
	tokens   = capitals + "abcdefghijklmnopqrstuvwxyz" + digits + "!#$%&'*+-.^_`|~"
	visible  = from(0x21, 0x7e)
	printed  = from(0x20, 0x7e)
	valued   = "\t" + from(0x20, 0x7e) + from(0x80, 0xff)
)

// from is the bytes first to last.
func from(first, last int) string {
	var s []byte
	for c := first; c <= last; c++ {
		s = append(s, byte(c))
	}
	return string(s)
}

// stop is how the oracle gives up: with a fault's Code, or 0, where the bytes end.
type stop struct{ code api.Code }

// puller is the oracle of a feed: it has all bytes, and goes through them by the grammar's words, where the feed is gone through by the bytes.
type puller struct {
	b       []byte
	at      int
	head    int // where this head begins; -1: behind it
	answers bool
}

// reckoned is what a feed that takes all of b answers, whether it is open then, and its fault, if it has one.
func reckoned(b []byte, answers bool) (whole []api.Message, open bool, f *api.Fault) {
	p := &puller{b: b, answers: answers}
	start := 0
	defer func() {
		s, ok := recover().(stop)
		switch {
		case !ok:
			panic("the oracle is broken")
		case s.code != 0:
			f = &api.Fault{At: p.at, Err: s.code}
		default:
			open = start < len(b)
		}
	}()
	for {
		m := p.message()
		whole, start = append(whole, m), p.at
	}
}

func (p *puller) fail(code api.Code) { panic(stop{code}) }

func (p *puller) peek() byte {
	if p.at == len(p.b) {
		p.fail(0)
	}
	if p.head >= 0 && p.at-p.head >= 8192 {
		p.fail(api.ErrLong)
	}
	return p.b[p.at]
}

// must goes past a text, at whose other bytes it fails so.
func (p *puller) must(s string, code api.Code) {
	for i := range len(s) {
		if p.peek() != s[i] {
			p.fail(code)
		}
		p.at++
	}
}

// run goes past at most so many of some bytes, and at least so many.
func (p *puller) run(of string, least, most int, code api.Code) string {
	start := p.at
	for p.at-start < most && strings.IndexByte(of, p.peek()) >= 0 {
		p.at++
	}
	if p.at-start < least {
		p.fail(code)
	}
	return string(p.b[start:p.at])
}

func (p *puller) message() api.Message {
	var m api.Message
	p.head = p.at
	if p.answers {
		p.must("HTTP/1.1 ", api.ErrVersion)
		status := p.run("12345", 1, 1, api.ErrSyntax) + p.run(digits, 2, 2, api.ErrSyntax)
		fmt.Sscan(status, &m.Status)
		p.must(" ", api.ErrSyntax)
		m.Reason = p.run(printed, 0, 1<<30, 0)
		p.must("\r\n", api.ErrSyntax)
	} else {
		m.Method = p.run(capitals, 1, 16, api.ErrSyntax)
		p.must(" ", api.ErrSyntax)
		m.Target = p.run(visible, 1, 2048, api.ErrSyntax)
		if strings.IndexByte(visible, p.peek()) >= 0 {
			p.fail(api.ErrLong)
		}
		p.must(" ", api.ErrSyntax)
		p.must("HTTP/1.1\r", api.ErrVersion)
		p.must("\n", api.ErrSyntax)
	}
	for p.peek() != '\r' {
		if len(m.Headers) == 64 {
			p.fail(api.ErrLong)
		}
		name := p.run(tokens, 1, 1<<30, api.ErrSyntax)
		p.must(":", api.ErrSyntax)
		value := p.run(valued, 0, 1<<30, 0)
		p.must("\r\n", api.ErrSyntax)
		m.Headers = append(m.Headers, api.Header{Name: name, Value: trimmed(value)})
	}
	p.must("\r", api.ErrSyntax)
	if p.peek() != '\n' {
		p.fail(api.ErrSyntax)
	}
	length, pieces := p.framing(m.Headers)
	p.must("\n", 0)
	p.head = -1
	if pieces {
		m.Body = p.pieces()
	} else {
		m.Body = p.bytes(length)
	}
	return m
}

// trimmed is a value without the blanks at its ends, taken off one by one.
func trimmed(s string) string {
	for strings.HasPrefix(s, " ") || strings.HasPrefix(s, "\t") {
		s = s[1:]
	}
	for strings.HasSuffix(s, " ") || strings.HasSuffix(s, "\t") {
		s = s[:len(s)-1]
	}
	return s
}

var (
	encodings = regexp.MustCompile(`^[Tt][Rr][Aa][Nn][Ss][Ff][Ee][Rr]-[Ee][Nn][Cc][Oo][Dd][Ii][Nn][Gg]$`)
	lengths   = regexp.MustCompile(`^[Cc][Oo][Nn][Tt][Ee][Nn][Tt]-[Ll][Ee][Nn][Gg][Tt][Hh]$`)
	chunks    = regexp.MustCompile(`^[Cc][Hh][Uu][Nn][Kk][Ee][Dd]$`)
	decimals  = regexp.MustCompile(`^[0-9]{1,10}$`)
)

// framing is asked at the head's last byte.
func (p *puller) framing(headers []api.Header) (length int, pieces bool) {
	var encoded, measured []string
	for _, h := range headers {
		if encodings.MatchString(h.Name) {
			encoded = append(encoded, h.Value)
		}
		if lengths.MatchString(h.Name) {
			measured = append(measured, h.Value)
		}
	}
	if len(encoded)+len(measured) > 1 {
		p.fail(api.ErrBody)
	}
	for _, v := range encoded {
		if !chunks.MatchString(v) {
			p.fail(api.ErrBody)
		}
		return 0, true
	}
	for _, v := range measured {
		if !decimals.MatchString(v) {
			p.fail(api.ErrBody)
		}
		fmt.Sscanf(v, "%d", &length)
		if length > 65536 {
			p.fail(api.ErrLong)
		}
	}
	return length, false
}

// bytes are the next ones, whatever they are.
func (p *puller) bytes(n int) []byte {
	if len(p.b)-p.at < n {
		p.at = len(p.b)
		p.fail(0)
	}
	p.at += n
	return append([]byte(nil), p.b[p.at-n:p.at]...)
}

func (p *puller) pieces() []byte {
	var body []byte
	for {
		var n int
		fmt.Sscanf(p.run(hexes, 1, 8, api.ErrBody), "%x", &n)
		p.must("\r", api.ErrBody)
		if p.peek() != '\n' {
			p.fail(api.ErrBody)
		}
		if len(body)+n > 65536 {
			p.fail(api.ErrLong)
		}
		p.at++
		body = append(body, p.bytes(n)...)
		p.must("\r\n", api.ErrBody)
		if n == 0 {
			return body
		}
	}
}

// span is a part, a name or a value of a target: its bytes are those from start on, up to end.
type span struct{ start, end int }

// cutTarget is the spans of a target's path, and of its query, two by two; a value that isn't there is a span of no bytes.
func cutTarget(target string) (path []span, query [][2]span) {
	mark := strings.IndexByte(target, '?')
	end := mark
	if mark < 0 {
		end = len(target)
	}
	path = cutSpan(target, span{1, end}, "/")
	if mark < 0 || mark == len(target)-1 {
		return path, nil
	}
	for _, s := range cutSpan(target, span{mark + 1, len(target)}, "&") {
		name, value := s, span{s.end, s.end}
		if i := strings.IndexByte(target[s.start:s.end], '='); i >= 0 {
			name.end, value.start = s.start+i, s.start+i+1
		}
		query = append(query, [2]span{name, value})
	}
	return path, query
}

func cutSpan(target string, s span, at string) []span {
	var l []span
	for _, piece := range strings.Split(target[s.start:s.end], at) {
		l = append(l, span{s.start, s.start + len(piece)})
		s.start += len(piece) + 1
	}
	return l
}

var (
	coded = regexp.MustCompile("%[0-9A-Fa-f][0-9A-Fa-f]")
)

// decoded is a span's bytes, and where its first byte is that may not stand there; -1: nowhere.
func decoded(target string, s span) (string, int) {
	piece := target[s.start:s.end]
	whole := coded.ReplaceAllStringFunc(piece, func(string) string { return "..." })
	for i := range len(whole) {
		if whole[i] == '%' || strings.IndexByte(visible, whole[i]) < 0 || whole[i] == '#' {
			return "", s.start + i
		}
	}
	return coded.ReplaceAllStringFunc(piece, func(c string) string {
		var b byte
		fmt.Sscanf(c[1:], "%x", &b)
		return string([]byte{b})
	}), -1
}

// splitReckoned is what Split answers: all spans are read, in their order, up to the first that is amiss.
func splitReckoned(target string) ([]string, []api.Param, *api.Fault) {
	if !strings.HasPrefix(target, "/") {
		return nil, nil, &api.Fault{Err: api.ErrSyntax}
	}
	path, query := cutTarget(target)
	all := append([]span(nil), path...)
	for _, q := range query {
		all = append(all, q[0], q[1])
	}
	var texts []string
	for _, s := range all {
		text, bad := decoded(target, s)
		if bad >= 0 {
			return nil, nil, &api.Fault{At: bad, Err: api.ErrSyntax}
		}
		if !utf8.ValidString(text) {
			return nil, nil, &api.Fault{At: s.start, Err: api.ErrUtf}
		}
		texts = append(texts, text)
	}
	var params []api.Param
	for i := len(path); i < len(texts); i += 2 {
		params = append(params, api.Param{Name: texts[i], Value: texts[i+1]})
	}
	return texts[:len(path)], params, nil
}

// joinReckoned is what Join answers.
func joinReckoned(path []string, query []api.Param) string {
	var parts, params []string
	for _, p := range path {
		parts = append(parts, codedReckoned(p))
	}
	for _, q := range query {
		params = append(params, codedReckoned(q.Name)+"="+codedReckoned(q.Value))
	}
	s := "/" + strings.Join(parts, "/")
	if len(params) > 0 {
		s += "?" + strings.Join(params, "&")
	}
	return s
}

func codedReckoned(s string) string {
	var all strings.Builder
	for _, c := range []byte(s) {
		if strings.IndexByte(capitals+"abcdefghijklmnopqrstuvwxyz0123456789-._~!$:@", c) >= 0 {
			all.WriteByte(c)
		} else {
			fmt.Fprintf(&all, "%%%02X", c)
		}
	}
	return all.String()
}

// writeReckoned is what Write answers: each word of m is held against a pattern.
func writeReckoned(m api.Message) ([]byte, api.Code) {
	request := onlyOf(m.Method, capitals, 1, 16) && onlyOf(m.Target, visible, 1, 2048) && m.Status == 0 && m.Reason == ""
	answer := m.Method == "" && m.Target == "" && m.Status >= 100 && m.Status < 600 && onlyOf(m.Reason, printed, 0, 1<<30)
	ok := request || answer
	for _, h := range m.Headers {
		ok = ok && onlyOf(h.Name, tokens, 1, 1<<30) && onlyOf(h.Value, valued, 0, 1<<30) && trimmed(h.Value) == h.Value
		ok = ok && !encodings.MatchString(h.Name) && !lengths.MatchString(h.Name)
	}
	if !ok {
		return nil, api.ErrArg
	}
	var head strings.Builder
	if request {
		fmt.Fprintf(&head, "%s %s HTTP/1.1\r\n", m.Method, m.Target)
	} else {
		fmt.Fprintf(&head, "HTTP/1.1 %03d %s\r\n", m.Status, m.Reason)
	}
	for _, h := range m.Headers {
		fmt.Fprintf(&head, "%s: %s\r\n", h.Name, h.Value)
	}
	fmt.Fprintf(&head, "Content-Length: %d\r\n\r\n", len(m.Body))
	if len(m.Headers) > 63 || len(m.Body) > 65536 || head.Len() > 8192 {
		return nil, api.ErrLong
	}
	return []byte(head.String() + string(m.Body)), 0
}

func onlyOf(s, of string, least, most int) bool {
	for i := range len(s) {
		if strings.IndexByte(of, s[i]) < 0 {
			return false
		}
	}
	return len(s) >= least && len(s) <= most
}

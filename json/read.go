package json

import (
	"strings"
	"unicode/utf8"

	"covey/api"
	"covey/utf"
)

// The marks of a number that is told by its digits, and how many these are.
const (
	escape     = `\u`
	escapeLong = 4
	leastHalf  = 0xd800
	lastHalf   = 0xdfff
)

// A reader goes through a text from the left, and panics with the fault of the first thing that is amiss.
type reader struct {
	text  string
	at    int // the place of the next byte
	bad   int // where no character's bytes stand whole; -1: nowhere
	depth int // of lists and objects that are open
}

func newReader(s string) *reader { return &reader{text: s, bad: utf.Bad(s)} }

func amiss(at int, code api.Code) *api.Fault { return &api.Fault{At: at, Err: code} }

// whole reads the text from its beginning to its end.
func (r *reader) whole() api.Value {
	r.blanks()
	v := r.value()
	r.blanks()
	if r.at < len(r.text) {
		panic(amiss(r.at, api.ErrSyntax))
	}
	return v
}

// next is the next byte; at the end 0, which may nowhere stand either.
func (r *reader) next() byte {
	if r.at == len(r.text) {
		return 0
	}
	return r.text[r.at]
}

// takes goes past a byte, if it is the next one.
func (r *reader) takes(b byte) bool {
	if r.next() != b {
		return false
	}
	r.at++
	return true
}

// want goes past a byte that alone may stand here.
func (r *reader) want(b byte) {
	if !r.takes(b) {
		panic(amiss(r.at, api.ErrSyntax))
	}
}

func (r *reader) blanks() {
	for r.takes(' ') || r.takes('\n') || r.takes('\r') || r.takes('\t') {
	}
}

func (r *reader) value() api.Value {
	switch b := r.next(); {
	case b == 'n':
		return r.word("null", api.Value{})
	case b == 't':
		return r.word("true", api.Value{Kind: api.Bool, Bool: true})
	case b == 'f':
		return r.word("false", api.Value{Kind: api.Bool})
	case b == '"':
		return api.Value{Kind: api.Text, Text: r.quoted()}
	case b == '[':
		return r.list()
	case b == '{':
		return r.object()
	case b == '-' || isDigit(b):
		return api.Value{Kind: api.Int, Int: r.number()}
	}
	panic(amiss(r.at, api.ErrSyntax))
}

// word goes past a word, and answers what it stands for.
func (r *reader) word(word string, v api.Value) api.Value {
	for i := range len(word) {
		r.want(word[i])
	}
	return v
}

func (r *reader) list() api.Value {
	v := api.Value{Kind: api.List}
	r.bracketed(']', func() { v.List = append(v.List, r.value()) })
	return v
}

func (r *reader) object() api.Value {
	v := api.Value{Kind: api.Object}
	places := map[string]int{}
	r.bracketed('}', func() {
		at := r.at
		name := r.quoted()
		if _, twice := places[name]; twice {
			panic(amiss(at, api.ErrTwice))
		}
		places[name] = at
		r.blanks()
		r.want(':')
		r.blanks()
		v.Fields = append(v.Fields, api.Field{Name: name, Value: r.value()})
	})
	return v
}

// bracketed reads from an opening bracket to its closing one, and each element between them by one.
func (r *reader) bracketed(closing byte, one func()) {
	if r.depth == api.MaxDepth {
		panic(amiss(r.at, api.ErrDepth))
	}
	r.depth++
	r.at++
	r.blanks()
	if !r.takes(closing) {
		r.elements(closing, one)
	}
	r.depth--
}

// elements reads one element at least, and the bracket behind the last.
func (r *reader) elements(closing byte, one func()) {
	for {
		one()
		r.blanks()
		if r.takes(closing) {
			return
		}
		r.want(',')
		r.blanks()
	}
}

func (r *reader) number() int64 {
	at := r.at
	negative := r.takes('-')
	size := r.digits()
	if size > api.MaxInt {
		panic(amiss(at, api.ErrNumber))
	}
	if negative {
		return -size
	}
	return size
}

// digits reads a number without its sign; one beyond MaxInt is told as MaxInt + 1, however many digits it has.
func (r *reader) digits() int64 {
	if !isDigit(r.next()) {
		panic(amiss(r.at, api.ErrSyntax))
	}
	if r.takes('0') {
		return 0
	}
	var size int64
	for isDigit(r.next()) {
		size = min(size*10+int64(r.next()-'0'), api.MaxInt+1)
		r.at++
	}
	return size
}

func isDigit(b byte) bool { return b >= '0' && b <= '9' }

// quoted reads a text, its quotes too.
func (r *reader) quoted() string {
	r.want('"')
	var runes []rune
	for {
		at := r.at
		c := r.character()
		switch {
		case c == '"':
			return string(runes)
		case c == '\\':
			c = r.escaped(at)
		case c < ' ':
			panic(amiss(at, api.ErrSyntax))
		}
		runes = append(runes, c)
	}
}

// character goes past the next character of a text.
func (r *reader) character() rune {
	switch r.at {
	case len(r.text):
		panic(amiss(r.at, api.ErrSyntax))
	case r.bad:
		panic(amiss(r.at, api.ErrUtf))
	}
	c, size := utf8.DecodeRuneInString(r.text[r.at:])
	r.at += size
	return c
}

// escaped reads on behind a backslash at slash, and is the character that is meant.
func (r *reader) escaped(slash int) rune {
	at := r.at
	switch c := r.character(); c {
	case '"', '\\', '/':
		return c
	case 'b':
		return '\b'
	case 'f':
		return '\f'
	case 'n':
		return '\n'
	case 'r':
		return '\r'
	case 't':
		return '\t'
	case 'u':
		return r.numbered(slash)
	}
	panic(amiss(at, api.ErrSyntax))
}

// numbered reads on behind a `\u` at slash: one number, or two that are a pair of halves.
func (r *reader) numbered(slash int) rune {
	number := 0
	for range escapeLong {
		at := r.at
		digit := hexDigit(r.character())
		if digit == -1 {
			panic(amiss(at, api.ErrSyntax))
		}
		number = number*16 + digit
	}
	if number < leastHalf || number > lastHalf {
		return rune(number)
	}
	point, err := utf.Pair(number, r.numberAhead())
	if err != nil {
		panic(amiss(slash, api.ErrUtf))
	}
	r.at += len(escape) + escapeLong
	return rune(point)
}

// numberAhead is the number of the `\u` that comes next; -1: none does. It goes past nothing.
func (r *reader) numberAhead() int {
	digits, ok := strings.CutPrefix(r.text[r.at:], escape)
	if !ok || len(digits) < escapeLong {
		return -1
	}
	number := 0
	for _, c := range digits[:escapeLong] {
		digit := hexDigit(c)
		if digit == -1 {
			return -1
		}
		number = number*16 + digit
	}
	return number
}

// hexDigit is what a hexadecimal digit counts; -1: it is none.
func hexDigit(c rune) int {
	switch {
	case c >= '0' && c <= '9':
		return int(c - '0')
	case c >= 'a' && c <= 'f':
		return int(c-'a') + 10
	case c >= 'A' && c <= 'F':
		return int(c-'A') + 10
	}
	return -1
}

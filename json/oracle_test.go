package json_test

import (
	"encoding/json"
	"io"
	"math/big"
	"regexp"
	"strings"
	"testing"
	"unicode/utf8"

	"covey/api"
)

// The states of a machine: what it has read last, or what is due.
const (
	valueDue = iota
	valueOrEndDue
	nameDue
	nameOrEndDue
	colonDue
	behindValue
	inWord
	behindMinus
	behindZero
	inDigits
	inText
	inEscape
	inHex
)

var lowAhead = regexp.MustCompile(`^\\u[dD][c-fC-F][0-9a-fA-F]{2}`)

// A machine reads a text byte by byte, with a stack instead of calls, so that it is held against Parse as a reading of another make.
type machine struct {
	s       string
	state   int
	open    []byte
	names   []map[string]bool
	word    string // what is left of it
	start   int    // of the number, text or escape that is read
	hex     string
	isName  bool
	skipped int // bytes that are read already
}

// read is the fault of s, nil if there is none.
func read(s string) *api.Fault {
	m := &machine{s: s}
	for at := 0; at < len(s); at++ {
		if m.skipped > 0 {
			m.skipped--
			continue
		}
		if f := m.step(at, s[at]); f != nil {
			return f
		}
	}
	if f := m.endNumber(len(s)); f != nil {
		return f
	}
	if m.state != behindValue || len(m.open) > 0 {
		return &api.Fault{At: len(s), Err: api.ErrSyntax}
	}
	return nil
}

// endNumber ends a number, if one may end here.
func (m *machine) endNumber(at int) *api.Fault {
	if m.state != behindZero && m.state != inDigits {
		return nil
	}
	m.state = behindValue
	n, ok := new(big.Int).SetString(m.s[m.start:at], 10)
	if !ok {
		panic("no number: " + m.s[m.start:at])
	}
	if n.CmpAbs(big.NewInt(1<<53)) >= 0 {
		return &api.Fault{At: m.start, Err: api.ErrNumber}
	}
	return nil
}

func (m *machine) step(at int, b byte) *api.Fault {
	syntax := &api.Fault{At: at, Err: api.ErrSyntax}
	digit := b >= '0' && b <= '9'
	switch {
	case m.state >= inText:
		return m.textStep(at, b)
	case m.state == inWord:
		if m.word[0] != b {
			return syntax
		}
		m.word = m.word[1:]
		if m.word == "" {
			m.state = behindValue
		}
		return nil
	case m.state == behindMinus && !digit:
		return syntax
	case m.state == behindMinus && b == '0':
		m.state = behindZero
		return nil
	case (m.state == behindMinus || m.state == inDigits) && digit:
		m.state = inDigits
		return nil
	}
	if f := m.endNumber(at); f != nil {
		return f
	}
	if strings.IndexByte(" \n\r\t", b) >= 0 {
		return nil
	}
	return m.mark(at, b)
}

// mark reads a byte that is neither a blank nor within a word, number or text.
func (m *machine) mark(at int, b byte) *api.Fault {
	syntax := &api.Fault{At: at, Err: api.ErrSyntax}
	value := m.state == valueDue || m.state == valueOrEndDue
	top := byte(0)
	if len(m.open) > 0 {
		top = m.open[len(m.open)-1]
	}
	switch {
	case b == '"' && (value || m.state == nameDue || m.state == nameOrEndDue):
		m.isName, m.start, m.state = !value, at, inText
	case value && (b == '[' || b == '{'):
		if len(m.open) == 32 {
			return &api.Fault{At: at, Err: api.ErrDepth}
		}
		m.open, m.names = append(m.open, b), append(m.names, map[string]bool{})
		m.state = valueOrEndDue
		if b == '{' {
			m.state = nameOrEndDue
		}
	case value && strings.IndexByte("ntf", b) >= 0:
		m.state, m.word = inWord, map[byte]string{'n': "ull", 't': "rue", 'f': "alse"}[b]
	case value && b == '-':
		m.start, m.state = at, behindMinus
	case value && b == '0':
		m.start, m.state = at, behindZero
	case value && b >= '1' && b <= '9':
		m.start, m.state = at, inDigits
	case b == ']' && top == '[' && (m.state == valueOrEndDue || m.state == behindValue),
		b == '}' && top == '{' && (m.state == nameOrEndDue || m.state == behindValue):
		m.open, m.names = m.open[:len(m.open)-1], m.names[:len(m.names)-1]
		m.state = behindValue
	case b == ',' && top == '[' && m.state == behindValue:
		m.state = valueDue
	case b == ',' && top == '{' && m.state == behindValue:
		m.state = nameDue
	case b == ':' && m.state == colonDue:
		m.state = valueDue
	default:
		return syntax
	}
	return nil
}

func (m *machine) textStep(at int, b byte) *api.Fault {
	syntax := &api.Fault{At: at, Err: api.ErrSyntax}
	r, size := utf8.DecodeRuneInString(m.s[at:])
	if r == utf8.RuneError && size == 1 {
		return &api.Fault{At: at, Err: api.ErrUtf}
	}
	switch {
	case m.state == inEscape && b == 'u':
		m.hex, m.state = "", inHex
	case m.state == inEscape:
		if strings.IndexByte(`"\/bfnrt`, b) < 0 {
			return syntax
		}
		m.state = inText
	case m.state == inHex:
		if strings.IndexByte("0123456789abcdefABCDEF", b) < 0 {
			return syntax
		}
		m.hex += strings.ToLower(string(b))
		if len(m.hex) == 4 {
			return m.endHex(at)
		}
	case b == '"':
		return m.endText(at)
	case b == '\\':
		m.state = inEscape
	case b < 32:
		return syntax
	default:
		m.skipped = size - 1
	}
	return nil
}

// endHex is told the place of an escape's last digit.
func (m *machine) endHex(at int) *api.Fault {
	m.state = inText
	if m.hex < "d800" || m.hex > "dfff" {
		return nil
	}
	if m.hex >= "dc00" || !lowAhead.MatchString(m.s[at+1:]) {
		return &api.Fault{At: at - 5, Err: api.ErrUtf}
	}
	m.skipped = 6
	return nil
}

func (m *machine) endText(at int) *api.Fault {
	m.state = behindValue
	if !m.isName {
		return nil
	}
	m.state = colonDue
	var name string
	if err := json.Unmarshal([]byte(m.s[m.start:at+1]), &name); err != nil {
		panic(err)
	}
	names := m.names[len(m.names)-1]
	if names[name] {
		return &api.Fault{At: m.start, Err: api.ErrTwice}
	}
	names[name] = true
	return nil
}

// decoded is the value of a text without faults, as the library's reader tells it.
func decoded(t *testing.T, s string) api.Value {
	t.Helper()
	d := json.NewDecoder(strings.NewReader(s))
	d.UseNumber()
	v := decodedValue(t, s, d)
	if _, err := d.Token(); err != io.EOF {
		t.Fatalf("%q: %v behind its value", s, err)
	}
	return v
}

func decodedValue(t *testing.T, s string, d *json.Decoder) api.Value {
	t.Helper()
	token, err := d.Token()
	if err != nil {
		t.Fatalf("%q: %v", s, err)
	}
	switch x := token.(type) {
	case bool:
		return api.Value{Kind: api.Bool, Bool: x}
	case json.Number:
		n, err := x.Int64()
		if err != nil {
			t.Fatalf("%q: %v", s, err)
		}
		return api.Value{Kind: api.Int, Int: n}
	case string:
		return api.Value{Kind: api.Text, Text: x}
	case json.Delim:
		v := api.Value{Kind: api.List}
		if x == '{' {
			v.Kind = api.Object
		}
		for d.More() {
			if x == '[' {
				v.List = append(v.List, decodedValue(t, s, d))
				continue
			}
			name, err := d.Token()
			if err != nil {
				t.Fatalf("%q: %v", s, err)
			}
			v.Fields = append(v.Fields, api.Field{Name: name.(string), Value: decodedValue(t, s, d)})
		}
		if _, err := d.Token(); err != nil {
			t.Fatalf("%q: %v", s, err)
		}
		return v
	}
	return api.Value{}
}

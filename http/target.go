package http

import (
	"strings"

	"covey/api"
)

const (
	plainMarks = "-._~!$:@"
	hexDigits  = "0123456789ABCDEF"
)

// targetReader goes through a target from the left; at is the place that it has come to.
type targetReader struct {
	text string
	at   int
}

// stands tells whether the next byte is this one.
func (r *targetReader) stands(c byte) bool {
	return r.at < len(r.text) && r.text[r.at] == c
}

// path reads the parts; it is asked where a `/` stands.
func (r *targetReader) path() ([]string, error) {
	var parts []string
	for r.stands('/') {
		r.at++
		part, err := r.piece("/?")
		if err != nil {
			return nil, err
		}
		parts = append(parts, part)
	}
	return parts, nil
}

// query reads the names and values; it is asked where the path has ended.
func (r *targetReader) query() ([]api.Param, error) {
	var params []api.Param
	if len(r.text)-r.at <= len("?") {
		return nil, nil
	}
	for r.at < len(r.text) {
		// Past the `?`, or the `&` behind another.
		r.at++
		p, err := r.param()
		if err != nil {
			return nil, err
		}
		params = append(params, p)
	}
	return params, nil
}

func (r *targetReader) param() (api.Param, error) {
	name, err := r.piece("=&")
	if err != nil || !r.stands('=') {
		return api.Param{Name: name}, err
	}
	r.at++
	value, err := r.piece("&")
	return api.Param{Name: name, Value: value}, err
}

// piece reads a part, a name or a value: up to the first of these ends, or to the target's.
func (r *targetReader) piece(ends string) (string, error) {
	start := r.at
	var read []byte
	for r.at < len(r.text) && strings.IndexByte(ends, r.text[r.at]) < 0 {
		c, size, ok := readCoded(r.text[r.at:])
		if !ok {
			return "", fault(r.at, api.ErrSyntax)
		}
		read = append(read, c)
		r.at += size
	}
	if !isSound(string(read)) {
		return "", fault(start, api.ErrUtf)
	}
	return string(read), nil
}

// readCoded is the byte that s begins with, coded or plain, and how many of s tell it; false: none may stand so.
func readCoded(s string) (c byte, size int, ok bool) {
	switch {
	case !isTargetByte(s[0]) || s[0] == '#':
		return 0, 0, false
	case s[0] != '%':
		return s[0], 1, true
	case len(s) < 3 || !isHexDigit(s[1]) || !isHexDigit(s[2]):
		return 0, 0, false
	}
	return digitValue(s[1])<<4 | digitValue(s[2]), 3, true
}

func appendCoded(text []byte, s string) []byte {
	for i := range len(s) {
		c := s[i]
		if isLetterOrDigit(c) || strings.IndexByte(plainMarks, c) >= 0 {
			text = append(text, c)
		} else {
			text = append(text, '%', hexDigits[c>>4], hexDigits[c&15])
		}
	}
	return text
}

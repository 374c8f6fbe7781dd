package http

import "strings"

const (
	version   = "HTTP/1.1"
	lineEnd   = "\r\n"
	blanks    = " \t"
	maxMethod = 16
	nameMarks = "!#$%&'*+-.^_`|~"
	// The two headers that tell how long a body is, and the only value of the first.
	encodingName = "Transfer-Encoding"
	lengthName   = "Content-Length"
	inPieces     = "chunked"
	// How many digits a body's length, and that of a piece of it, may have.
	maxLengthDigits = 10
	maxPieceDigits  = 8
	leastStatus     = 100
	lastStatus      = 599
)

func isGreat(c byte) bool { return c >= 'A' && c <= 'Z' }

func isSmall(c byte) bool { return c >= 'a' && c <= 'z' }

func isDigit(c byte) bool { return c >= '0' && c <= '9' }

func isLetterOrDigit(c byte) bool { return isGreat(c) || isSmall(c) || isDigit(c) }

func isTargetByte(c byte) bool { return c > ' ' && c <= '~' }

func isReasonByte(c byte) bool { return c >= ' ' && c <= '~' }

func isNameByte(c byte) bool { return isLetterOrDigit(c) || strings.IndexByte(nameMarks, c) >= 0 }

func isValueByte(c byte) bool { return c == '\t' || isReasonByte(c) || c >= 0x80 }

func isHexDigit(c byte) bool { return isDigit(c) || c >= 'A' && c <= 'F' || c >= 'a' && c <= 'f' }

// digitValue is what a digit tells, which is known to be one of either kind.
func digitValue(c byte) byte {
	switch {
	case isDigit(c):
		return c - '0'
	case isGreat(c):
		return c - 'A' + 10
	}
	return c - 'a' + 10
}

// number is what some digits tell: few enough of them that it isn't beyond an int64.
func number(digits string, base int64) int64 {
	var n int64
	for i := range len(digits) {
		n = n*base + int64(digitValue(digits[i]))
	}
	return n
}

func every(s string, is func(c byte) bool) bool {
	for i := range len(s) {
		if !is(s[i]) {
			return false
		}
	}
	return true
}

func isMethod(s string) bool { return s != "" && len(s) <= maxMethod && every(s, isGreat) }

func isName(s string) bool { return s != "" && every(s, isNameByte) }

func isBare(value string) bool { return strings.Trim(value, blanks) == value }

func isLength(s string) bool { return s != "" && len(s) <= maxLengthDigits && every(s, isDigit) }

// tellsBody: of such headers a message has at most one.
func tellsBody(name string) bool { return same(name, encodingName) || same(name, lengthName) }

// same holds two texts against each other with the letters' cases as one: those of A to Z alone, where the library's EqualFold has more.
func same(a, b string) bool {
	if len(a) != len(b) {
		return false
	}
	for i := range len(a) {
		if small(a[i]) != small(b[i]) {
			return false
		}
	}
	return true
}

func small(c byte) byte {
	if isGreat(c) {
		return c - 'A' + 'a'
	}
	return c
}

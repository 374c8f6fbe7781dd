// Package utf is layer 1: see shared/doc/01-utf.md.
package utf

import (
	"cmp"
	"strings"
	"unicode/utf8"

	"covey/api"
)

// The bounds of the characters' numbers, and of the halves among them.
const (
	leastHigh = 0xd800
	leastLow  = 0xdc00
	lastHalf  = 0xdfff
	lastPoint = 0x10ffff
	leastPair = 0x10000
	lowHalves = lastHalf - leastLow + 1
)

// Bad is where a text is no UTF-8; -1: nowhere.
func Bad(s string) int {
	for i, r := range s {
		// A range gives fffd where no character stands, but also where fffd itself stands.
		if r == utf8.RuneError && !strings.HasPrefix(s[i:], string(utf8.RuneError)) {
			return i
		}
	}
	return -1
}

// Points are the numbers of a text's characters.
func Points(s string) ([]int, error) {
	if err := sound(s); err != nil {
		return nil, err
	}
	var points []int
	for _, r := range s {
		points = append(points, int(r))
	}
	return points, nil
}

// Text is the text of some characters.
func Text(points []int) (string, error) {
	runes := make([]rune, len(points))
	for i, p := range points {
		if !isPoint(p) {
			return "", fault(i)
		}
		runes[i] = rune(p)
	}
	return string(runes), nil
}

// Cut is the beginning of a text that has at most so many bytes.
func Cut(s string, most int) (string, error) {
	if most < 0 {
		return "", api.ErrArg
	}
	if err := sound(s); err != nil {
		return "", err
	}
	// A clone, since an answer shares no memory with what is handed in.
	return strings.Clone(s[:lengthWithin(s, most)]), nil
}

// Cmp tells how two texts stand to one another, character by character.
func Cmp(a, b string) (int, error) {
	if Bad(a) != -1 || Bad(b) != -1 {
		return 0, api.ErrUtf
	}
	for i, r := range a {
		// Up to i both are the same, so that a character of b begins there, too, or b ends.
		if i == len(b) {
			return 1, nil
		}
		if other, _ := utf8.DecodeRuneInString(b[i:]); r != other {
			return cmp.Compare(r, other), nil
		}
	}
	return cmp.Compare(len(a), len(b)), nil
}

// Pair is the character that two halves make.
func Pair(high, low int) (int, error) {
	if high < leastHigh || high >= leastLow || low < leastLow || low > lastHalf {
		return 0, api.ErrArg
	}
	return leastPair + (high-leastHigh)*lowHalves + low - leastLow, nil
}

// sound is nil, or the fault of a text that is not sound.
func sound(s string) error {
	if at := Bad(s); at != -1 {
		return fault(at)
	}
	return nil
}

func fault(at int) error { return &api.Fault{At: at, Err: api.ErrUtf} }

func isPoint(p int) bool {
	return p >= 0 && p <= lastPoint && (p < leastHigh || p > lastHalf)
}

// lengthWithin is how many bytes the whole characters take that end within the first most bytes of a sound text.
func lengthWithin(s string, most int) int {
	if len(s) <= most {
		return len(s)
	}
	end := 0
	for i := range s {
		if i > most {
			break
		}
		end = i
	}
	return end
}

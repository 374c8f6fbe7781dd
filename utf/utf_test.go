package utf_test

import (
	"math"
	"slices"
	"strings"
	"testing"
	"unsafe"

	"covey/api"
	"covey/utf"
)

// edges: the least and the greatest number of one, two, three and four bytes, those beside the halves, fffd, and some ordinary ones.
var edges = []struct {
	point int
	bytes string
}{
	{0, "\x00"},
	{0x61, "a"},
	{0x7f, "\x7f"},
	{0x80, "\xc2\x80"},
	{0xe9, "\xc3\xa9"},
	{0x7ff, "\xdf\xbf"},
	{0x800, "\xe0\xa0\x80"},
	{0x20ac, "\xe2\x82\xac"},
	{0xd7ff, "\xed\x9f\xbf"},
	{0xe000, "\xee\x80\x80"},
	{0xfffd, "\xef\xbf\xbd"},
	{0xfffe, "\xef\xbf\xbe"},
	{0xffff, "\xef\xbf\xbf"},
	{0x10000, "\xf0\x90\x80\x80"},
	{0x1f600, "\xf0\x9f\x98\x80"},
	{0x10ffff, "\xf4\x8f\xbf\xbf"},
}

// broken: bytes at whose place 0 no character's bytes stand whole.
var broken = []string{
	"\x80", "\xbf", "\xfe", "\xff", // no beginning
	"\xc3", "\xe2", "\xe2\x82", "\xf0", "\xf0\x9f", "\xf0\x9f\x98", "\xef", "\xef\xbf", // they end within a character
	"\xc3a", "\xe2\x82a", "\xf0\x9f\x98a", "\xe2\xc3\xa9", "\xef\xbfa", // another begins within one
	"\xc0\x80", "\xc1\xbf", "\xe0\x80\x80", "\xe0\x9f\xbf", "\xf0\x80\x80\x80", "\xf0\x8f\xbf\xbf", // longer than it needs
	"\xed\xa0\x80", "\xed\xaf\xbf", "\xed\xb0\x80", "\xed\xbf\xbf", // halves
	"\xed\xa0\xbd\xed\xb8\x80",                                 // a pair of halves
	"\xf4\x90\x80\x80", "\xf5\x80\x80\x80", "\xf7\xbf\xbf\xbf", // above 10ffff
	"\xf8\x88\x80\x80\x80", "\xfb\xbf\xbf\xbf\xbf", "\xfc\x84\x80\x80\x80\x80", // five and six bytes
}

// noPoints: numbers that are no character's; those at the end would be one's, were they taken by their lower 32 bits.
var noPoints = []int{
	-1, -97, math.MinInt, math.MinInt32,
	0xd800, 0xdbff, 0xdc00, 0xdfff,
	0x110000, 0x110001, math.MaxInt32, math.MaxInt,
	1<<32 + 97, -1<<32 + 97, 1<<40 + 0x1f600,
}

// encode is a character's bytes as the chapter's head tells them.
func encode(p int) string {
	switch {
	case p <= 0x7f:
		return string([]byte{byte(p)})
	case p <= 0x7ff:
		return string([]byte{byte(0xc0 | p>>6), byte(0x80 | p&0x3f)})
	case p <= 0xffff:
		return string([]byte{byte(0xe0 | p>>12), byte(0x80 | p>>6&0x3f), byte(0x80 | p&0x3f)})
	}
	return string([]byte{byte(0xf0 | p>>18), byte(0x80 | p>>12&0x3f), byte(0x80 | p>>6&0x3f), byte(0x80 | p&0x3f)})
}

func isCharacter(p int) bool { return p >= 0 && p < 0xd800 || p > 0xdfff && p <= 0x10ffff }

// first is the number of the character whose bytes s begins with, and how many these are; 0 bytes: there is none.
func first(s string) (int, int) {
	for size := 1; size <= 4 && size <= len(s); size++ {
		p := int(s[0])
		if size > 1 {
			p &= 0x7f >> size
		}
		for _, c := range []byte(s[1:size]) {
			p = p<<6 | int(c&0x3f)
		}
		if isCharacter(p) && encode(p) == s[:size] {
			return p, size
		}
	}
	return 0, 0
}

// read is what Bad and Points are to answer of s.
func read(s string) (int, []int) {
	var points []int
	for at := 0; at < len(s); {
		p, size := first(s[at:])
		if size == 0 {
			return at, nil
		}
		points = append(points, p)
		at += size
	}
	return -1, points
}

// someBytes calls f with every text of at most so many of those bytes at which the forms of characters change, all of them behind s.
func someBytes(s string, most int, f func(string)) {
	const set = "\x00\x41\x7f\x80\x8f\x90\x9f\xa0\xbd\xbf\xc0\xc1\xc2\xdf\xe0\xe1\xed\xee\xef\xf0\xf1\xf4\xf5\xf8\xff"
	f(s)
	if most == 0 {
		return
	}
	for i := range len(set) {
		someBytes(s+set[i:i+1], most-1, f)
	}
}

// soundTexts: of up to three characters each, the empty one first.
func soundTexts() []string {
	all := []string{""}
	from := 0
	for range 3 {
		to := len(all)
		for _, t := range all[from:to] {
			for _, e := range edges {
				all = append(all, t+e.bytes)
			}
		}
		from = to
	}
	return all
}

// isFault holds that err is a fault itself, of ErrUtf, at a place.
func isFault(t *testing.T, what string, err error, at int) {
	t.Helper()
	f, ok := err.(*api.Fault)
	if !ok || f == nil || f.At != at || f.Err != error(api.ErrUtf) {
		t.Errorf("%s: error %v, want a fault ErrUtf at %d", what, err, at)
	}
}

func TestBadOfSoundTexts(t *testing.T) {
	for _, s := range soundTexts() {
		if n := utf.Bad(s); n != -1 {
			t.Errorf("Bad(%q): %d", s, n)
		}
	}
}

func TestBadOfBrokenTexts(t *testing.T) {
	for _, b := range broken {
		for _, ahead := range []string{"", "a", "é", "\ufffd", "a€😀\ufffd"} {
			for _, behind := range []string{"", "a", "\ufffd", "\xff"} {
				s := ahead + b + behind
				if n := utf.Bad(s); n != len(ahead) {
					t.Errorf("Bad(%q): %d, want %d", s, n, len(ahead))
				}
			}
		}
	}
}

func TestExamples(t *testing.T) {
	for _, c := range []struct {
		s    string
		want int
	}{{"aé", -1}, {"a\xff", 1}, {"é\xc3", 2}, {"\xed\xa0\x80", 0}, {"\xc0\x80", 0}, {"", -1}} {
		if n := utf.Bad(c.s); n != c.want {
			t.Errorf("Bad(%q): %d, want %d", c.s, n, c.want)
		}
	}
	if l, err := utf.Points("aé€😀"); err != nil || !slices.Equal(l, []int{97, 233, 8364, 128512}) {
		t.Errorf("Points: %v, %v", l, err)
	}
	if s, err := utf.Text([]int{97, 233}); err != nil || s != "aé" {
		t.Errorf("Text: %q, %v", s, err)
	}
	_, err := utf.Text([]int{97, 55296})
	isFault(t, "Text of a half", err, 1)
	if p, err := utf.Pair(0xd83d, 0xde00); err != nil || p != 128512 {
		t.Errorf("Pair: %d, %v", p, err)
	}
	if p, err := utf.Pair(0xd83d, 0xd83d); err != api.ErrArg || p != 0 {
		t.Errorf("Pair of two high halves: %d, %v", p, err)
	}
}

// TestEveryFormOfBytes holds Bad and Points against a reading by the chapter's head.
func TestEveryFormOfBytes(t *testing.T) {
	someBytes("", 4, func(s string) {
		at, want := read(s)
		if n := utf.Bad(s); n != at {
			t.Errorf("Bad(%q): %d, want %d", s, n, at)
		}
		l, err := utf.Points(s)
		if !slices.Equal(l, want) {
			t.Errorf("Points(%q): %v, want %v", s, l, want)
		}
		if at != -1 {
			isFault(t, "Points of broken bytes", err, at)
		} else if err != nil {
			t.Errorf("Points(%q): %v", s, err)
		}
	})
}

// TestEveryNumber goes through all numbers up to beyond the greatest character's.
func TestEveryNumber(t *testing.T) {
	for p := -3; p <= 0x110003; p++ {
		s, err := utf.Text([]int{p})
		if !isCharacter(p) {
			if s != "" {
				t.Errorf("Text of %x: %q", p, s)
			}
			isFault(t, "Text of no character", err, 0)
			continue
		}
		if err != nil || s != encode(p) {
			t.Fatalf("Text of %x: %q, %v, want %q", p, s, err, encode(p))
		}
		if l, err := utf.Points(s); err != nil || len(l) != 1 || l[0] != p {
			t.Fatalf("Points(%q): %v, %v, want %x", s, l, err, p)
		}
	}
}

func TestPointsOfBrokenTexts(t *testing.T) {
	for _, b := range broken {
		l, err := utf.Points("é\ufffd" + b)
		isFault(t, "Points", err, 5)
		if len(l) != 0 {
			t.Errorf("Points of %q: %v beside an error", b, l)
		}
	}
}

func TestEmpty(t *testing.T) {
	if l, err := utf.Points(""); len(l) != 0 || err != nil {
		t.Errorf("Points of nothing: %v, %v", l, err)
	}
	for _, l := range [][]int{nil, {}} {
		if s, err := utf.Text(l); s != "" || err != nil {
			t.Errorf("Text of nothing: %q, %v", s, err)
		}
	}
	for _, most := range []int{0, 1, math.MaxInt} {
		if s, err := utf.Cut("", most); s != "" || err != nil {
			t.Errorf("Cut of nothing at %d: %q, %v", most, s, err)
		}
	}
	if n, err := utf.Cmp("", ""); n != 0 || err != nil {
		t.Errorf("Cmp of nothing: %d, %v", n, err)
	}
}

func TestTextOfEdges(t *testing.T) {
	var all []int
	var want strings.Builder
	for _, e := range edges {
		all = append(all, e.point)
		want.WriteString(e.bytes)
		if s, err := utf.Text([]int{e.point}); err != nil || s != e.bytes {
			t.Errorf("Text of %x: %q, %v, want %q", e.point, s, err, e.bytes)
		}
	}
	if s, err := utf.Text(all); err != nil || s != want.String() {
		t.Errorf("Text of %x: %q, %v, want %q", all, s, err, want.String())
	}
}

func TestTextOfNoCharacters(t *testing.T) {
	for _, p := range noPoints {
		for _, l := range [][]int{{p}, {0xe9, p}, {0x1f600, 0x61, p, 0x61}, {0xfffd, p, -1, 0xd800}} {
			s, err := utf.Text(l)
			isFault(t, "Text", err, slices.Index(l, p))
			if s != "" {
				t.Errorf("Text of %x: %q beside an error", l, s)
			}
		}
	}
	s, err := utf.Text([]int{0xd83d, 0xde00})
	isFault(t, "Text of a pair of halves", err, 0)
	if s != "" {
		t.Errorf("Text of a pair of halves: %q", s)
	}
}

func TestCutExamples(t *testing.T) {
	for _, c := range []struct {
		s    string
		most int
		want string
	}{
		{"aé", 2, "a"}, {"aé", 3, "aé"},
		{"a\ufffd", 3, "a"}, {"a\ufffd", 4, "a\ufffd"},
		{"😀", 3, ""}, {"😀", 4, "😀"}, {"😀", math.MaxInt, "😀"},
	} {
		if s, err := utf.Cut(c.s, c.most); err != nil || s != c.want {
			t.Errorf("Cut(%q, %d): %q, %v, want %q", c.s, c.most, s, err, c.want)
		}
	}
}

func TestCutAtEachLength(t *testing.T) {
	for _, s := range soundTexts() {
		_, points := read(s)
		for most := 0; most <= len(s)+2; most++ {
			want := ""
			for _, p := range points {
				if len(want)+len(encode(p)) > most {
					break
				}
				want += encode(p)
			}
			if got, err := utf.Cut(s, most); err != nil || got != want {
				t.Errorf("Cut(%q, %d): %q, %v, want %q", s, most, got, err, want)
			}
		}
	}
}

func TestCutErrors(t *testing.T) {
	for _, most := range []int{-1, -2, math.MinInt} {
		for _, s := range []string{"", "é", "a\xff", "\xff"} {
			if got, err := utf.Cut(s, most); err != api.ErrArg || got != "" {
				t.Errorf("Cut(%q, %d): %q, %v, want ErrArg", s, most, got, err)
			}
		}
	}
	for _, b := range broken {
		for _, most := range []int{0, 1, 2, 3, 4, 5, 100, math.MaxInt} {
			got, err := utf.Cut("aé"+b, most)
			isFault(t, "Cut", err, 3)
			if got != "" {
				t.Errorf("Cut of %q at %d: %q beside an error", b, most, got)
			}
		}
	}
}

func TestCmpExamples(t *testing.T) {
	for _, c := range []struct {
		a, b string
		want int
	}{
		{"a", "ab", -1}, {"é", "z", 1}, {"\uffff", "😀", -1},
		{"", "a", -1}, {"", "\x00", -1}, {"x", "x", 0}, {"aé€😀", "aé€😀", 0},
		{"\ufffd", "\ufffd", 0}, {"\ufffd", "\ufffc", 1}, {"\ufffd", "\ufffe", -1},
		{"é", "éa", -1}, {"éa", "éé", -1}, {"€", "éz", 1}, {"ab", "b", -1}, {"A", "a", -1},
	} {
		if n, err := utf.Cmp(c.a, c.b); err != nil || n != c.want {
			t.Errorf("Cmp(%q, %q): %d, %v, want %d", c.a, c.b, n, err, c.want)
		}
		if n, err := utf.Cmp(c.b, c.a); err != nil || n != -c.want {
			t.Errorf("Cmp(%q, %q): %d, %v, want %d", c.b, c.a, n, err, -c.want)
		}
	}
}

func TestCmpOfBrokenTexts(t *testing.T) {
	for _, b := range broken {
		for _, c := range [][2]string{
			{"a", b}, {b, "a"}, {b, b}, {"", b}, {b, ""}, {"\ufffd", b},
			{"a" + b, "b"}, {"b", "a" + b}, // amiss behind the first difference
			{b, "\xff"},
		} {
			if n, err := utf.Cmp(c[0], c[1]); err != api.ErrUtf || n != 0 {
				t.Errorf("Cmp(%q, %q): %d, %v, want ErrUtf itself", c[0], c[1], n, err)
			}
		}
	}
}

// TestCmpOfPairs holds Cmp against the numbers, and against the order of the bytes.
func TestCmpOfPairs(t *testing.T) {
	var texts []string
	for _, s := range soundTexts() {
		if _, l := read(s); len(l) < 3 {
			texts = append(texts, s)
		}
	}
	for _, a := range texts {
		_, la := read(a)
		for _, b := range texts {
			_, lb := read(b)
			n, err := utf.Cmp(a, b)
			if err != nil || n != slices.Compare(la, lb) || n != strings.Compare(a, b) {
				t.Fatalf("Cmp(%q, %q): %d, %v, want %d", a, b, n, err, slices.Compare(la, lb))
			}
		}
	}
}

func TestEveryPair(t *testing.T) {
	want := 65536
	for high := 55296; high <= 56319; high++ {
		for low := 56320; low <= 57343; low++ {
			if p, err := utf.Pair(high, low); err != nil || p != want {
				t.Fatalf("Pair(%x, %x): %x, %v, want %x", high, low, p, err, want)
			}
			want++
		}
	}
	if want != 0x110000 {
		t.Errorf("the pairs end at %x", want)
	}
}

func TestPairErrors(t *testing.T) {
	for _, c := range [][2]int{
		{0xd7ff, 0xdc00}, {0xdc00, 0xdc00}, {0xdfff, 0xdfff}, {0xe000, 0xdc00}, // high is none
		{0xd800, 0xdbff}, {0xd800, 0xd800}, {0xdbff, 0xe000}, {0xd800, 0xffff}, // low is none
		{0xdc00, 0xd800}, {0, 0}, {-1, -1}, {97, 98}, {0x1f600, 0xdc00},
		{-0xd800, 0xdc00}, {0xd800, -0xdc00}, {math.MinInt, 0xdc00}, {math.MaxInt, 0xdc00},
		{0xd800, math.MinInt}, {0xd800, math.MaxInt}, {0xd800 + 1<<32, 0xdc00}, {0xd800, 0xdc00 + 1<<32},
	} {
		if p, err := utf.Pair(c[0], c[1]); err != api.ErrArg || p != 0 {
			t.Errorf("Pair(%x, %x): %x, %v, want ErrArg", c[0], c[1], p, err)
		}
	}
}

func TestThereAndBack(t *testing.T) {
	for _, s := range soundTexts() {
		l, err := utf.Points(s)
		if err != nil {
			t.Fatalf("Points(%q): %v", s, err)
		}
		back, err := utf.Text(l)
		if err != nil || back != s {
			t.Errorf("Text of Points(%q): %q, %v", s, back, err)
		}
		if again, err := utf.Points(back); err != nil || !slices.Equal(again, l) {
			t.Errorf("Points of Text of %x: %x, %v", l, again, err)
		}
	}
}

func TestSoundBehindSound(t *testing.T) {
	for _, a := range edges {
		for _, b := range edges {
			if n := utf.Bad(a.bytes + b.bytes); n != -1 {
				t.Errorf("Bad(%q): %d", a.bytes+b.bytes, n)
			}
		}
	}
}

func TestWhatIsCutOffIsSound(t *testing.T) {
	for _, s := range soundTexts() {
		for most := 0; most <= len(s)+1; most++ {
			head, err := utf.Cut(s, most)
			if err != nil || !strings.HasPrefix(s, head) {
				t.Fatalf("Cut(%q, %d): %q, %v", s, most, head, err)
			}
			if n := utf.Bad(s[len(head):]); n != -1 {
				t.Errorf("behind Cut(%q, %d): Bad %d", s, most, n)
			}
		}
	}
}

// TestMemory: nothing that is handed in is changed, and no answer shares memory with another.
func TestMemory(t *testing.T) {
	l := []int{97, 233, 8364, 128512}
	given := slices.Clone(l)
	if _, err := utf.Text(given); err != nil || !slices.Equal(given, l) {
		t.Errorf("Text changed its points to %v, %v", given, err)
	}
	a, _ := utf.Points("aé€😀")
	b, _ := utf.Points("aé€😀")
	whole := a[:cap(a)]
	for i := range whole {
		whole[i] = -1
	}
	c, _ := utf.Points("aé€😀")
	if !slices.Equal(b, l) || !slices.Equal(c, l) {
		t.Errorf("Points shares its answers: %v, %v", b, c)
	}
	text := strings.Repeat("é", 20)
	for _, most := range []int{5, 40, 100} {
		head, err := utf.Cut(text, most)
		if err != nil || unsafe.StringData(head) == unsafe.StringData(text) {
			t.Errorf("Cut(%q, %d) answers its text's memory: %v", text, most, err)
		}
	}
}

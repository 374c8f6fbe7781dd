package base_test

import (
	"bytes"
	"encoding/base64"
	"math/rand"
	"slices"
	"strings"
	"testing"
	"unsafe"

	"covey/api"
	"covey/base"
)

var both = []bool{false, true}

// decodes asks Decode, which must answer those bytes and no error.
func decodes(t *testing.T, s string, url bool, want []byte) {
	t.Helper()
	b, err := base.Decode(s, url)
	if err != nil || !bytes.Equal(b, want) {
		t.Fatalf("Decode(%q, %v): %x, %v; not %x", s, url, b, err, want)
	}
}

// refuses asks Decode, which must answer that fault itself, and nothing else.
func refuses(t *testing.T, s string, url bool, at int) {
	t.Helper()
	b, err := base.Decode(s, url)
	f, ok := err.(*api.Fault)
	if !ok || f == nil || *f != syntax(at) {
		t.Fatalf("Decode(%q, %v): %v; not a fault at %d", s, url, err, at)
	}
	if len(b) != 0 {
		t.Fatalf("Decode(%q, %v): %x beside a fault", s, url, b)
	}
}

// holds asks Decode, and holds what it answers against the oracle.
func holds(t *testing.T, s string, url bool) {
	t.Helper()
	if want, at := oracleDecode(s, url); at >= 0 {
		refuses(t, s, url, at)
	} else {
		decodes(t, s, url, want)
	}
}

// encodes asks Encode, holds it against the oracle and the library, and asks Decode for the bytes again.
func encodes(t *testing.T, b []byte, url bool) {
	t.Helper()
	s := base.Encode(b, url)
	library := base64.RawStdEncoding
	if url {
		library = base64.RawURLEncoding
	}
	if s != oracleEncode(b, url) || s != library.EncodeToString(b) {
		t.Fatalf("Encode(%x, %v): %q; not %q", b, url, s, oracleEncode(b, url))
	}
	if len(s) != (4*len(b)+2)/3 {
		t.Fatalf("Encode of %d bytes has %d letters", len(b), len(s))
	}
	decodes(t, s, url, b)
}

// pattern is n bytes that are not alike.
func pattern(n int) []byte {
	b := make([]byte, n)
	for i := range b {
		b[i] = byte(i*37 + 251)
	}
	return b
}

func TestExamples(t *testing.T) {
	for _, c := range []struct {
		b   string
		url bool
		s   string
	}{
		{"\xfb\xff", false, "+/8"}, {"\xfb\xff", true, "-_8"},
		{"", false, ""}, {"\x00", false, "AA"}, {"abc", false, "YWJj"},
		{"", true, ""}, {"\x00", true, "AA"}, {"abc", true, "YWJj"},
	} {
		if s := base.Encode([]byte(c.b), c.url); s != c.s {
			t.Errorf("Encode(%q, %v): %q", c.b, c.url, s)
		}
		decodes(t, c.s, c.url, []byte(c.b))
	}
	refuses(t, "AA==", false, 2)
	refuses(t, "A", false, 0)
	refuses(t, "AB", false, 1)
	refuses(t, "+/8", true, 0)
	refuses(t, "-_8", false, 0)
}

// TestNothing: no bytes are the empty text, and the other way round, nil or not.
func TestNothing(t *testing.T) {
	for _, url := range both {
		if s := base.Encode(nil, url); s != "" {
			t.Errorf("Encode(nil, %v): %q", url, s)
		}
		encodes(t, []byte{}, url)
		decodes(t, "", url, nil)
	}
}

// TestEachLetter: which letter each value has, in both alphabets.
func TestEachLetter(t *testing.T) {
	for _, url := range both {
		for v, letter := range alphabets[url] {
			if s := base.Encode([]byte{byte(v << 2)}, url); s != letter+"A" {
				t.Errorf("the letter of %d, url %v: %q", v, url, s)
			}
			decodes(t, letter+"A", url, []byte{byte(v << 2)})
			decodes(t, "AAA"+letter, url, []byte{0, 0, byte(v)})
		}
	}
}

func TestEachByte(t *testing.T) {
	for _, url := range both {
		for x := range 256 {
			encodes(t, []byte{byte(x)}, url)
			encodes(t, []byte{byte(x), 0xff}, url)
			encodes(t, []byte{0, byte(x)}, url)
			encodes(t, []byte{0xff, 0, byte(x)}, url)
			encodes(t, []byte{0, 0xff, 0, byte(x)}, url)
			encodes(t, []byte{1, 2, 3, 4, byte(x)}, url)
		}
	}
}

func TestEachPair(t *testing.T) {
	for x := range 256 {
		for y := range 256 {
			encodes(t, []byte{byte(x), byte(y)}, (x+y)%2 == 0)
		}
	}
}

func TestEachLengthOfBytes(t *testing.T) {
	for _, url := range both {
		for n := range 100 {
			encodes(t, make([]byte, n), url)
			encodes(t, bytes.Repeat([]byte{0xff}, n), url)
			encodes(t, pattern(n), url)
		}
	}
}

// TestEachLengthOfText: a text of n letters A is the bytes 0, but where it has one letter too many.
func TestEachLengthOfText(t *testing.T) {
	for _, url := range both {
		for n := range 100 {
			s := strings.Repeat("A", n)
			if n%4 == 1 {
				refuses(t, s, url, n-1)
			} else {
				decodes(t, s, url, make([]byte, n*6/8))
			}
		}
	}
}

// TestEachByteAtEachPlace: only letters of the alphabet may stand in a text, wherever; a byte that isn't one is where the fault is.
func TestEachByteAtEachPlace(t *testing.T) {
	for _, url := range both {
		for n := 1; n <= 13; n++ {
			sound := []byte(strings.Repeat("A", n))
			for i := range n {
				for x := range 256 {
					s := slices.Clone(sound)
					s[i] = byte(x)
					letter := slices.Contains(alphabets[url], string(s[i:i+1]))
					switch {
					case !letter:
						refuses(t, string(s), url, i)
					case n%4 == 1:
						refuses(t, string(s), url, n-1)
					default:
						holds(t, string(s), url)
					}
				}
			}
		}
	}
}

// TestEachLastLetter: behind two letters of a four the last 4 bits must be noughts, behind three the last 2.
func TestEachLastLetter(t *testing.T) {
	for _, url := range both {
		for _, ahead := range []string{"", "AAAA", "zZ09", "abcdefgh"} {
			for v, letter := range alphabets[url] {
				two, three, four := ahead+"9"+letter, ahead+"09"+letter, ahead+"Z09"+letter
				for s, fits := range map[string]bool{two: v%16 == 0, three: v%4 == 0, four: true} {
					if fits {
						holds(t, s, url)
						if b, _ := base.Decode(s, url); base.Encode(b, url) != s {
							t.Errorf("Encode of Decode(%q, %v) is another text", s, url)
						}
					} else {
						refuses(t, s, url, len(s)-1)
					}
				}
			}
		}
	}
}

// TestWhichFault: a byte that isn't of the alphabet comes first, and of several the first one.
func TestWhichFault(t *testing.T) {
	for _, c := range []struct {
		s  string
		at int
	}{
		{"=", 0}, {"A===", 1}, {"====", 0}, {"AA=", 2}, {"AAA=", 3}, {"AB==", 2}, {"AAB=", 3},
		{"=AAAA", 0}, {"AA=AA", 2}, {"AAAA=", 4}, {"A=AA=", 1},
		{"=B", 0}, {"A=B", 1}, {"=AB", 0}, {"AA=AAB", 2}, {"AAAA=B", 4}, {"AAAAB=", 5},
		{"AAAAA", 4}, {"AAAAB", 4}, {"AAAAAB", 5}, {"AAAAAAB", 6},
		{" AAA", 0}, {"AAA ", 3}, {"AA\nAA", 2}, {"AAAA\n", 4}, {"AAAA\r\n", 4}, {"AA\tA", 2}, {"AAAA\x00", 4},
		{"Aé", 1}, {"AA\xff\xfe", 2}, {"\x80A", 0}, {"AAA\xc1", 3}, {"€uro", 0}, {"AĀAA", 1},
		{"A.AA", 1}, {"A,AA", 1}, {"A@AA", 1}, {"A[AA", 1}, {"A`AA", 1}, {"A{AA", 1}, {"A:AA", 1}, {"A*AA", 1},
	} {
		for _, url := range both {
			refuses(t, c.s, url, c.at)
		}
	}
	refuses(t, "+-/_", false, 1)
	refuses(t, "+-/_", true, 0)
	refuses(t, "A_-B", false, 1)
	refuses(t, "A+/B", true, 1)
	refuses(t, "AAAA_", false, 4)
	refuses(t, "AAAA+", true, 4)
	refuses(t, "A/B", true, 1)
	refuses(t, "A-B", false, 1)
}

// TestShortTexts: all texts of up to four bytes of a few, held against the oracle; those that have bytes are the texts of those bytes, and no two have the same.
func TestShortTexts(t *testing.T) {
	few := "ABQgw9z0+/-_= \n\x00\xc3"
	for _, url := range both {
		seen := map[string]string{}
		texts := []string{""}
		for range 5 {
			var longer []string
			for _, s := range texts {
				holds(t, s, url)
				if b, err := base.Decode(s, url); err == nil {
					if before, ok := seen[string(b)]; ok {
						t.Fatalf("%q and %q have the same bytes", before, s)
					}
					seen[string(b)] = s
					if base.Encode(b, url) != s {
						t.Fatalf("Encode of Decode(%q, %v) is another text", s, url)
					}
				}
				for i := 0; i < len(few); i++ {
					longer = append(longer, s+few[i:i+1])
				}
			}
			texts = longer
		}
	}
}

// TestByChance: bytes and texts made by chance.
func TestByChance(t *testing.T) {
	chance := rand.New(rand.NewSource(4))
	for round := range 20000 {
		url := round%2 == 0
		b := make([]byte, chance.Intn(60))
		chance.Read(b)
		encodes(t, b, url)
		s := []byte(base.Encode(b, url))
		for range chance.Intn(3) {
			if len(s) > 0 {
				s[chance.Intn(len(s))] = "ABCDQgwz09+/-_= \n\x00\xff"[chance.Intn(19)]
			}
		}
		holds(t, string(s), url)
	}
}

// TestLong: lengths around the greatest body's, and a far greater one.
func TestLong(t *testing.T) {
	for n := api.MaxBody - 2; n <= api.MaxBody+2; n++ {
		encodes(t, pattern(n), n%2 == 0)
	}
	b := pattern(1<<22 + 1)
	s := base.Encode(b, true)
	if len(s) != (4*len(b)+2)/3 || s != base64.RawURLEncoding.EncodeToString(b) {
		t.Errorf("Encode of %d bytes is not its text", len(b))
	}
	if got, err := base.Decode(s, true); err != nil || !bytes.Equal(got, b) {
		t.Errorf("Decode of %d letters is not its bytes: %v", len(s), err)
	}
	long := strings.Repeat("A", 1<<20)
	refuses(t, long+"=", false, 1<<20)
	refuses(t, long+"B", false, 1<<20)
	refuses(t, long+"AB", false, 1<<20+1)
}

// TestMemory: what is handed in isn't changed, and what is answered shares nothing with it or with another answer, spare room too.
func TestMemory(t *testing.T) {
	for n := range 10 {
		whole := pattern(n + 20)
		before := slices.Clone(whole)
		part := whole[:n]
		s := base.Encode(part, false)
		if !bytes.Equal(whole, before) {
			t.Fatalf("Encode of %d bytes changed them, or what is behind them", n)
		}
		want := strings.Clone(s)
		for i := range whole {
			whole[i] ^= 0xff
		}
		if s != want {
			t.Fatalf("the text of %d bytes changes with them", n)
		}
		memory := []byte(s)
		text := unsafe.String(unsafe.SliceData(memory), len(memory))
		first, err := base.Decode(text, false)
		second, _ := base.Decode(text, false)
		if err != nil || !bytes.Equal(first, before[:n]) {
			t.Fatalf("Decode(%q): %x, %v", text, first, err)
		}
		for i := range memory {
			memory[i] = 'A'
		}
		spoil(first)
		if !bytes.Equal(second, before[:n]) {
			t.Fatalf("the bytes of %q change with it, or with another answer", want)
		}
		if string(memory) != strings.Repeat("A", len(memory)) {
			t.Fatalf("the bytes of %q share the text's memory", want)
		}
		decodes(t, want, false, before[:n])
	}
}

// spoil overwrites a list with its spare room.
func spoil(b []byte) {
	b = b[:cap(b)]
	for i := range b {
		b[i] = 0xee
	}
}

// TestFaultsAreNew: a fault that is changed changes no other.
func TestFaultsAreNew(t *testing.T) {
	_, err := base.Decode("A", false)
	f, ok := err.(*api.Fault)
	if !ok {
		t.Fatalf("Decode(A): %v", err)
	}
	f.At, f.Err = 77, api.ErrArg
	refuses(t, "A", false, 0)
}

package hash_test

import (
	"bytes"
	"crypto/sha256"
	"crypto/sha512"
	"encoding/hex"
	"math/rand"
	"strings"
	"testing"

	"covey/hash"
)

var both = []bool{false, true}

// edges are the lengths at which the filling just fits into the last block of either width, or just doesn't, and those about them.
var edges = []int{0, 1, 54, 55, 56, 57, 63, 64, 65, 110, 111, 112, 113, 119, 120, 127, 128, 129, 183, 184, 191, 192, 193, 239, 240, 255, 256, 257}

// library is the digest as the library tells it.
func library(b []byte, wide bool) []byte {
	if wide {
		s := sha512.Sum512(b)
		return s[:]
	}
	s := sha256.Sum256(b)
	return s[:]
}

// whole is the digest as the program tells it of a text in one piece.
func whole(b []byte, wide bool) []byte {
	if wide {
		s := hash.Sum512(b)
		return s[:]
	}
	s := hash.Sum256(b)
	return s[:]
}

// pieces is the digest of a hasher that took those.
func pieces(wide bool, texts ...[]byte) []byte {
	h := hash.New(wide)
	for _, b := range texts {
		h.Write(b)
	}
	return h.Sum()
}

// pattern is n bytes that are not alike.
func pattern(n int) []byte {
	b := make([]byte, n)
	for i := range b {
		b[i] = byte(i*37 + i>>8*11 + 251)
	}
	return b
}

func holds(t *testing.T, what string, got, want []byte) {
	t.Helper()
	if !bytes.Equal(got, want) {
		t.Fatalf("%s: %x; not %x", what, got, want)
	}
}

func TestExamples(t *testing.T) {
	for _, c := range []struct {
		text string
		wide bool
		want string
	}{
		{"", false, "e3b0c44298fc1c149afbf4c8996fb92427ae41e4649b934ca495991b7852b855"},
		{"abc", false, "ba7816bf8f01cfea414140de5dae2223b00361a396177a9cb410ff61f20015ad"},
		{"abc", true, "ddaf35a193617abacc417349ae20413112e6fa4e89a97ea20a9eeee64b55d39a2192992a274fc1a836ba3c23a3feebbd454d4423643ce80e2a9ac94fa54ca49f"},
		{"", true, "cf83e1357eefb8bdf1542850d66d8007d620e4050b5715dc83f4a921d36ce9ce47d0d13c5d85f2b0ff8318d2877eec2f63b931bd47417a81a538327af927da3e"},
		{"abcdbcdecdefdefgefghfghighijhijkijkljklmklmnlmnomnopnopq", false, "248d6a61d20638b8e5c026930c3e6039a33ce45964ff2167f6ecedd419db06c1"},
		{"abcdefghbcdefghicdefghijdefghijkefghijklfghijklmghijklmnhijklmnoijklmnopjklmnopqklmnopqrlmnopqrsmnopqrstnopqrstu", true, "8e959b75dae313da8cf4f72814fc143f8f7779c6eb9f7fa17299aeadb6889018501d289e4900f7e4331b99dec4b5433ac7d329eeb6dd26545e96e55b874be909"},
	} {
		want, _ := hex.DecodeString(c.want)
		holds(t, "the digest of "+c.text, whole([]byte(c.text), c.wide), want)
		holds(t, "a hasher's of "+c.text, pieces(c.wide, []byte(c.text)), want)
	}
}

func TestNone(t *testing.T) {
	for _, wide := range both {
		want := library(nil, wide)
		holds(t, "nil", whole(nil, wide), want)
		holds(t, "no bytes", whole([]byte{}, wide), want)
		holds(t, "a hasher that took nothing", pieces(wide), want)
		holds(t, "a hasher that took nil", pieces(wide, nil), want)
		holds(t, "a hasher that took no bytes, often", pieces(wide, []byte{}, nil, []byte{}), want)
	}
}

func TestWidths(t *testing.T) {
	if n := len(hash.New(false).Sum()); n != 32 {
		t.Errorf("%d bytes without wide", n)
	}
	if n := len(hash.New(true).Sum()); n != 64 {
		t.Errorf("%d bytes with wide", n)
	}
}

func TestAllLengths(t *testing.T) {
	oracles, text := oracleOf(), pattern(4*128+1)
	for _, wide := range both {
		for n := range len(text) + 1 {
			want := library(text[:n], wide)
			holds(t, "the library's", oracles[wide].digest(text[:n]), want)
			holds(t, "in one piece", whole(text[:n], wide), want)
			holds(t, "a hasher's", pieces(wide, text[:n]), want)
		}
	}
}

// TestAlike: where bytes are all noughts, all ones or all the byte that is filled in, no filling is taken for text.
func TestAlike(t *testing.T) {
	for _, wide := range both {
		for _, b := range []byte{0, 0x7f, 0x80, 0xff} {
			for n := range 300 {
				text := bytes.Repeat([]byte{b}, n)
				holds(t, "bytes that are alike", whole(text, wide), library(text, wide))
			}
		}
	}
}

func TestAllBytes(t *testing.T) {
	for _, wide := range both {
		for b := range 256 {
			text := []byte{byte(b)}
			holds(t, "one byte", whole(text, wide), library(text, wide))
			text = append(pattern(90), byte(b), byte(255-b))
			holds(t, "among others", whole(text, wide), library(text, wide))
		}
		for at := range 256 {
			text := make([]byte, 256)
			text[at] = 1 << (at % 8)
			holds(t, "a bit", whole(text, wide), library(text, wide))
		}
	}
}

func TestLong(t *testing.T) {
	million := []byte(strings.Repeat("a", 1000000))
	for _, wide := range both {
		holds(t, "a million", whole(million, wide), library(million, wide))
		for _, n := range []int{65535, 65536, 65537, 1<<20 - 9, 1<<20 - 8} {
			text := pattern(n)
			holds(t, "a long text", whole(text, wide), library(text, wide))
			holds(t, "a long piece", pieces(wide, text[:100], text[100:]), library(text, wide))
		}
	}
	want, _ := hex.DecodeString("cdc76e5c9914fb9281a1c7e284d73e67f1809a48a497200e046d39ccc7112cd0")
	holds(t, "a million", whole(million, false), want)
}

// TestPiecesOfOneSize: a text in pieces of every size, the last one smaller.
func TestPiecesOfOneSize(t *testing.T) {
	for _, wide := range both {
		for _, n := range edges {
			text := pattern(n + 300)
			want := library(text, wide)
			for size := 1; size <= len(text)+1; size++ {
				h := hash.New(wide)
				for rest := text; len(rest) > 0; {
					k := min(size, len(rest))
					h.Write(rest[:k])
					rest = rest[k:]
				}
				holds(t, "pieces of one size", h.Sum(), want)
			}
		}
	}
}

// TestTwoCuts: every two cuts of a text of some blocks, with Sum asked at each of them, and empty pieces between.
func TestTwoCuts(t *testing.T) {
	for _, wide := range both {
		step := 1
		text := pattern(200)
		if wide {
			text, step = pattern(390), 2
		}
		digests := make([][]byte, len(text)+1)
		for n := range digests {
			digests[n] = library(text[:n], wide)
		}
		for i := 0; i <= len(text); i += step {
			for j := i; j <= len(text); j += step {
				h := hash.New(wide)
				h.Write(text[:i])
				if (i+j)%3 == 0 {
					holds(t, "at the first cut", h.Sum(), digests[i])
					h.Write(nil)
				}
				h.Write(text[i:j])
				if (i+j)%2 == 0 {
					h.Write([]byte{})
					holds(t, "at the second cut", h.Sum(), digests[j])
				}
				h.Write(text[j:])
				holds(t, "at the end", h.Sum(), digests[len(text)])
			}
		}
	}
}

// TestByChance: pieces of any sizes, empty ones and ones over several blocks among them, and Sum at any time.
func TestByChance(t *testing.T) {
	chance := rand.New(rand.NewSource(5))
	sizes := []int{0, 1, 2, 63, 64, 65, 127, 128, 129, 500}
	for range 600 {
		wide := chance.Intn(2) == 0
		h := hash.New(wide)
		var text []byte
		for range chance.Intn(12) {
			n := sizes[chance.Intn(len(sizes))]
			if chance.Intn(2) == 0 {
				n = chance.Intn(300)
			}
			piece := make([]byte, n)
			chance.Read(piece)
			text = append(text, piece...)
			h.Write(piece)
			for range chance.Intn(3) {
				holds(t, "on the way", h.Sum(), library(text, wide))
			}
		}
		holds(t, "at the end", h.Sum(), library(text, wide))
		holds(t, "in one piece", whole(text, wide), library(text, wide))
	}
}

func TestSumTwice(t *testing.T) {
	for _, wide := range both {
		for _, n := range edges {
			text := pattern(n)
			h := hash.New(wide)
			h.Write(text)
			for range 3 {
				holds(t, "once more", h.Sum(), library(text, wide))
			}
			h.Write([]byte("more"))
			holds(t, "with more", h.Sum(), library(append(text, "more"...), wide))
		}
	}
}

// TestApart: hashers of both widths, fed by turns, don't touch one another.
func TestApart(t *testing.T) {
	hashers := []*hash.Hasher{hash.New(false), hash.New(true), hash.New(false), hash.New(true)}
	texts := make([][]byte, len(hashers))
	for round := range 40 {
		for i, h := range hashers {
			piece := pattern(round*7 + i*13)[i:]
			h.Write(piece)
			texts[i] = append(texts[i], piece...)
			for j, other := range hashers {
				holds(t, "of its own", other.Sum(), library(texts[j], j%2 == 1))
			}
		}
	}
}

// TestHandedIn: what is handed in is not changed, not even behind its end, and not kept.
func TestHandedIn(t *testing.T) {
	for _, wide := range both {
		for _, n := range edges {
			room := pattern(n + 300)
			before := bytes.Clone(room)
			whole(room[:n], wide)
			h := hash.New(wide)
			h.Write(room[:n])
			h.Sum()
			if !bytes.Equal(room, before) {
				t.Fatalf("wide %v: %d bytes are changed", wide, n)
			}
			clear(room)
			holds(t, "a piece that is changed after", h.Sum(), library(before[:n], wide))
			h.Write(before[n:])
			holds(t, "and more behind it", h.Sum(), library(before, wide))
			if !bytes.Equal(room, make([]byte, len(room))) {
				t.Fatalf("wide %v: %d bytes are written to later", wide, n)
			}
		}
	}
}

// TestAnswers: changing an answer, its spare room too, changes no later one.
func TestAnswers(t *testing.T) {
	for _, wide := range both {
		for _, n := range edges {
			text := pattern(n)
			h := hash.New(wide)
			h.Write(text)
			first := h.Sum()
			second := h.Sum()
			for i := range first[:cap(first)] {
				first[:cap(first)][i] ^= 0xff
			}
			holds(t, "an answer beside", second, library(text, wide))
			holds(t, "a later answer", h.Sum(), library(text, wide))
			h.Write(text)
			holds(t, "an answer with more", h.Sum(), library(append(text, text...), wide))
			holds(t, "an answer that stays", second, library(text[:n], wide))
		}
	}
}

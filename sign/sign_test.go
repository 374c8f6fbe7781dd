package sign_test

import (
	"bytes"
	"crypto/ed25519"
	"crypto/sha512"
	"encoding/hex"
	"math/big"
	"math/rand"
	"slices"
	"strings"
	"testing"

	"covey/sign"
)

func unhex(t *testing.T, s string) []byte {
	t.Helper()
	b, err := hex.DecodeString(s)
	if err != nil {
		t.Fatal(err)
	}
	return b
}

// drawn is n bytes that hang on the seed alone.
func drawn(seed int64, n int) []byte {
	b := make([]byte, n)
	rand.New(rand.NewSource(seed)).Read(b)
	return b
}

func seeds() [][32]byte {
	var all [][32]byte
	for _, b := range []byte{0, 1, 0xff} {
		all = append(all, [32]byte(bytes.Repeat([]byte{b}, 32)))
	}
	for i := range int64(5) {
		all = append(all, [32]byte(drawn(i, 32)))
	}
	return all
}

// holds asks Verify, and the oracle, whether they answer want.
func holds(t *testing.T, what string, want bool, key, text, sig []byte) {
	t.Helper()
	if got := oracleVerify(key, text, sig); got != want {
		t.Fatalf("%s: the oracle says %v", what, got)
	}
	if got := sign.Verify(key, text, sig); got != want {
		t.Errorf("%s: Verify(%x, %d bytes, %x) = %v", what, key, len(text), sig, got)
	}
}

func TestExamples(t *testing.T) {
	rows := []struct{ seed, key, text, sig string }{
		{
			"9d61b19deffd5a60ba844af492ec2cc44449c5697b326919703bac031cae7f60",
			"d75a980182b10ab7d54bfed3c964073a0ee172f3daa62325af021a68f707511a",
			"",
			"e5564300c360ac729086e2cc806e828a84877f1eb8e5d974d873e065224901555fb8821590a33bacc61e39701cf9b46bd25bf5f0595bbe24655141438e7a100b",
		},
		{
			"4ccd089b28ff96da9db6c346ec114e0f5b8a319f35aba624da8cf6ed4fb8a6fb",
			"3d4017c3e843895a92b70aa74d1b7ebc9c982ccf2ec4968cc0cd55f12af4660c",
			"72",
			"92a009a9f0d4cab8720e820b5f642540a2b27b5416503f8fb3762223ebdb69da085ac1e43e15996e458f3613d0f11d8c387b2eaeb4302aeeb00d291612bb0c00",
		},
		{
			"c5aa8df43f9f837bedb7442f31dcb7b166d38535076f094b85ce3a2e0b4458f7",
			"fc51cd8e6218a1a38da47ed00230f0580816ed13ba3303ac5deb911548908025",
			"af82",
			"6291d657deec24024827e69c3abe01a30ce548a284743a445e3680d7db5ac3ac18ff9b538d16f290ae67f760984dc6594a7c15e9716ed28dc027beceea1ec40a",
		},
	}
	for _, r := range rows {
		seed, text := [32]byte(unhex(t, r.seed)), unhex(t, r.text)
		key, sig := sign.Public(seed), sign.Sign(seed, text)
		if hex.EncodeToString(key[:]) != r.key {
			t.Errorf("Public(%s) = %x", r.seed, key)
		}
		if hex.EncodeToString(sig[:]) != r.sig {
			t.Errorf("Sign(%s, %s) = %x", r.seed, r.text, sig)
		}
		holds(t, "as it is", true, key[:], text, sig[:])
		holds(t, "a byte more of the text", false, key[:], append(text, 0), sig[:])
		holds(t, "63 bytes", false, key[:], text, sig[:63])
	}
}

func TestPublic(t *testing.T) {
	all := seeds()
	for i := range int64(60) {
		all = append(all, [32]byte(drawn(100+i, 32)))
	}
	for _, seed := range all {
		key := sign.Public(seed)
		library := ed25519.NewKeyFromSeed(seed[:]).Public().(ed25519.PublicKey)
		if !bytes.Equal(key[:], library) {
			t.Errorf("Public(%x) = %x, not %x", seed, key, library)
		}
		if key != sign.Public(seed) {
			t.Errorf("Public(%x) changes", seed)
		}
	}
	for _, seed := range seeds() {
		if key := sign.Public(seed); key != oraclePublic(seed) {
			t.Errorf("Public(%x) = %x", seed, key)
		}
	}
}

// lengths are those at which the hash's blocks (of 128 bytes, 17 of them the end's) are full or nearly, behind a mark of 32 bytes and behind 64 bytes, and some others.
func lengths() []int {
	all := []int{0, 1, 2, 3, 31, 32, 33, 1000, 4096, 65536, 100001}
	for _, head := range []int{32, 64} {
		for _, full := range []int{111, 128, 239, 256} {
			for n := full - head - 1; n <= full-head+2; n++ {
				all = append(all, n)
			}
		}
	}
	slices.Sort(all)
	return slices.Compact(all)
}

func TestSignLibrary(t *testing.T) {
	for i, seed := range seeds() {
		library := ed25519.NewKeyFromSeed(seed[:])
		for _, n := range lengths() {
			text := drawn(int64(1000*i+n), n)
			want := ed25519.Sign(library, text)
			got := sign.Sign(seed, text)
			if !bytes.Equal(got[:], want) {
				t.Errorf("Sign(%x, %d bytes) = %x, not %x", seed, n, got, want)
			}
		}
	}
}

func TestSignOracle(t *testing.T) {
	for i, seed := range seeds() {
		for _, n := range []int{0, 1, 63, 64, 65, 500} {
			text := drawn(int64(7000*i+n), n)
			got := sign.Sign(seed, text)
			if want := oracleSign(seed, text); got != want {
				t.Errorf("Sign(%x, %d bytes) = %x, not %x", seed, n, got, want)
			}
			if got != sign.Sign(seed, slices.Clone(text)) {
				t.Errorf("Sign(%x, %d bytes) changes", seed, n)
			}
		}
	}
}

// Whatever is signed is valid for its key and its text, and its S is below the order.
func TestSigned(t *testing.T) {
	for i, seed := range seeds() {
		key := sign.Public(seed)
		for _, n := range lengths() {
			text := drawn(int64(3000*i+n), n)
			sig := sign.Sign(seed, text)
			if !sign.Verify(key[:], text, sig[:]) {
				t.Errorf("what %x signed of %d bytes is not valid", seed, n)
			}
			if whole(sig[32:]).Cmp(order) >= 0 {
				t.Errorf("S of %x for %d bytes is %x", seed, n, sig[32:])
			}
		}
	}
}

func TestSignedForNoOther(t *testing.T) {
	texts := [][]byte{nil, {0}, {0, 0}, []byte("a"), []byte("ab"), drawn(1, 200)}
	type signed struct {
		key  [32]byte
		text []byte
		sig  [64]byte
	}
	var all []signed
	for _, seed := range seeds()[:3] {
		for _, text := range texts {
			all = append(all, signed{sign.Public(seed), text, sign.Sign(seed, text)})
		}
	}
	for i, a := range all {
		for j, b := range all {
			if sign.Verify(b.key[:], b.text, a.sig[:]) != (i == j) {
				t.Errorf("the signature by %x of %q, for %x and %q", a.key, a.text, b.key, b.text)
			}
		}
	}
}

// flipped is b with one bit changed.
func flipped(b []byte, bit int) []byte {
	c := slices.Clone(b)
	c[bit/8] ^= 1 << (bit % 8)
	return c
}

func TestBitChanged(t *testing.T) {
	seed, text := [32]byte(drawn(11, 32)), drawn(12, 40)
	key, sig := sign.Public(seed), sign.Sign(seed, text)
	if !sign.Verify(key[:], text, sig[:]) {
		t.Fatal("not valid as it is")
	}
	for bit := range 8 * len(sig) {
		if sign.Verify(key[:], text, flipped(sig[:], bit)) {
			t.Errorf("bit %d of the signature", bit)
		}
	}
	for bit := range 8 * len(key) {
		if sign.Verify(flipped(key[:], bit), text, sig[:]) {
			t.Errorf("bit %d of the key", bit)
		}
	}
	for bit := range 8 * len(text) {
		if sign.Verify(key[:], flipped(text, bit), sig[:]) {
			t.Errorf("bit %d of the text", bit)
		}
	}
	for bit := range 8 * len(seed) {
		other := [32]byte(flipped(seed[:], bit))
		if bit%16 == 0 && (sign.Public(other) == key || sign.Sign(other, text) == sig) {
			t.Errorf("bit %d of the seed", bit)
		}
	}
}

func TestTextChanged(t *testing.T) {
	seed, text := [32]byte(drawn(13, 32)), drawn(14, 64)
	key, sig := sign.Public(seed), sign.Sign(seed, text)
	for n := range text {
		if sign.Verify(key[:], text[:n], sig[:]) {
			t.Errorf("the first %d bytes of the text", n)
		}
	}
	if sign.Verify(key[:], append(slices.Clone(text), 0), sig[:]) || sign.Verify(key[:], text[1:], sig[:]) {
		t.Error("a longer text, or its end")
	}
}

func TestLengths(t *testing.T) {
	seed, text := [32]byte(drawn(21, 32)), []byte("some text")
	key, sig := sign.Public(seed), sign.Sign(seed, text)
	longKey, longSig := append(key[:], make([]byte, 40)...), append(sig[:], make([]byte, 70)...)
	for n := range len(longKey) + 1 {
		if sign.Verify(longKey[:n], text, sig[:]) != (n == 32) {
			t.Errorf("a key of %d bytes", n)
		}
		if sign.Verify(longKey[:n], text, nil) {
			t.Errorf("a key of %d bytes without a signature", n)
		}
	}
	for n := range len(longSig) + 1 {
		if sign.Verify(key[:], text, longSig[:n]) != (n == 64) {
			t.Errorf("a signature of %d bytes", n)
		}
		if sign.Verify(nil, text, longSig[:n]) {
			t.Errorf("a signature of %d bytes without a key", n)
		}
	}
	for _, k := range []int{0, 31, 33} {
		for _, s := range []int{0, 63, 65} {
			if sign.Verify(longKey[:k], text, longSig[:s]) || sign.Verify(longKey[:k], nil, longSig[:s]) {
				t.Errorf("a key of %d bytes, a signature of %d", k, s)
			}
		}
	}
	// For the key of nought what is hashed counts for nothing: only its length is left.
	none, all := easy(big.NewInt(7))
	for n := range 80 {
		key, sig := append(none[:], make([]byte, 48)...)[:n], append(all[:], make([]byte, 16)...)[:n]
		holds(t, "nought", n == 32, key, text, all[:])
		holds(t, "nought", n == 64, none[:], text, sig)
	}
	if sign.Verify(nil, nil, nil) || sign.Verify([]byte{}, []byte{}, []byte{}) {
		t.Error("nothing at all")
	}
	if sign.Verify(sig[:], text, key[:]) {
		t.Error("key and signature changed about")
	}
	if sign.Verify(make([]byte, 1<<16), text, make([]byte, 1<<16)) {
		t.Error("much too long")
	}
}

// A nil text and an empty one are the same.
func TestNoText(t *testing.T) {
	for _, seed := range seeds() {
		key, sig := sign.Public(seed), sign.Sign(seed, nil)
		if sig != sign.Sign(seed, []byte{}) {
			t.Errorf("the empty text, signed by %x", seed)
		}
		holds(t, "nil", true, key[:], nil, sig[:])
		holds(t, "empty", true, key[:], []byte{}, sig[:])
	}
}

// small are the eight points of small order: those of an eighth, one after the other.
func small() []spot {
	for y := int64(2); ; y++ {
		s, ok := spotWith(big.NewInt(y), 0)
		if !ok {
			continue
		}
		eighth := s.times(order)
		if eighth.times(big.NewInt(4)).code() == nought().code() {
			continue
		}
		all := []spot{nought()}
		for range 7 {
			all = append(all, all[len(all)-1].and(eighth))
		}
		return all
	}
}

func TestSmall(t *testing.T) {
	codes := map[[32]byte]bool{}
	for _, s := range small() {
		codes[s.code()] = true
		if s.times(big.NewInt(8)).code() != nought().code() {
			t.Errorf("%x is not of small order", s.code())
		}
	}
	if len(codes) != 8 {
		t.Errorf("%d points of small order", len(codes))
	}
}

// With a key of small order, and S and R chosen, what is valid hangs on the hash; it is as the definition says, for each pair of key and R.
func TestSmallKeys(t *testing.T) {
	valid, not := 0, 0
	for i, key := range small() {
		for j, first := range small() {
			for n := range 6 {
				code, text := key.code(), []byte{byte(i), byte(j), byte(n)}
				sig := joined(first.code(), [32]byte{})
				want := oracleVerify(code[:], text, sig[:])
				holds(t, "R and key of small order", want, code[:], text, sig[:])
				if library := ed25519.Verify(code[:], text, sig[:]); library != want {
					t.Errorf("key %d, R %d, text %d: the library says %v", i, j, n, library)
				}
				if want {
					valid++
				} else {
					not++
				}
			}
		}
	}
	if valid < 20 || not < 100 {
		t.Errorf("%d valid, %d not: too few", valid, not)
	}
}

// R is S times the base point and a point of small order; the key is a seed's and a point of small order.
func TestMixed(t *testing.T) {
	a, _ := oracleSecret([32]byte(drawn(31, 32)))
	valid := 0
	for i, more := range small() {
		key := oracleBase().times(a).and(more).code()
		for j, aside := range small() {
			text := []byte{byte(i), byte(j)}
			r := whole(drawn(int64(100*i+j), 31))
			first := oracleBase().times(r).and(aside).code()
			k := oracleHash(first[:], key[:], text)
			s := plus(r, new(big.Int).Mul(k, a))
			sig := joined(first, number(s.Mod(s, order)))
			want := oracleVerify(key[:], text, sig[:])
			holds(t, "mixed", want, key[:], text, sig[:])
			if want {
				valid++
			}
		}
	}
	if valid < 2 || valid > 50 {
		t.Errorf("%d of 64 valid", valid)
	}
}

// easy is a signature by the key of nought, valid for every text: R is S times the base point.
func easy(s *big.Int) ([32]byte, [64]byte) {
	return nought().code(), joined(oracleBase().times(s).code(), number(s))
}

func TestNoughtKey(t *testing.T) {
	for _, s := range []*big.Int{new(big.Int), big.NewInt(1), big.NewInt(2), pow2(252), less(order, big.NewInt(2)), less(order, big.NewInt(1))} {
		key, sig := easy(s)
		for _, text := range [][]byte{nil, {1}, drawn(1, 300)} {
			holds(t, "S "+s.String(), true, key[:], text, sig[:])
		}
	}
}

func TestOrder(t *testing.T) {
	most := less(pow2(256), big.NewInt(1))
	for _, s := range []*big.Int{order, plus(order, big.NewInt(1)), plus(order, order), less(pow2(253), big.NewInt(1)), pow2(253), pow2(255), less(most, big.NewInt(1)), most} {
		key, sig := easy(s)
		if k := oracleBase().times(new(big.Int).Mod(s, order)).code(); k != [32]byte(sig[:32]) {
			t.Fatal("R is not right")
		}
		holds(t, "S "+s.String(), false, key[:], []byte("text"), sig[:])
	}
}

// S more by the order, once or often: the sum is the same, but it is not valid.
func TestMoreByOrder(t *testing.T) {
	for i, seed := range seeds() {
		text := drawn(int64(i), 20)
		key, sig := sign.Public(seed), sign.Sign(seed, text)
		for s, n := plus(whole(sig[32:]), order), 1; s.BitLen() <= 256; s, n = plus(s, order), n+1 {
			more := joined([32]byte(sig[:32]), number(s))
			if sign.Verify(key[:], text, more[:]) {
				t.Errorf("S more by %d orders", n)
			}
		}
		for _, s := range []*big.Int{new(big.Int), order, less(order, big.NewInt(1)), less(pow2(256), big.NewInt(1)), less(order, whole(sig[32:]))} {
			other := joined([32]byte(sig[:32]), number(s))
			holds(t, "another S", false, key[:], text, other[:])
		}
	}
}

// forms are other bytes that would be taken for the point of y, x's lowest bit being bit, by one who reads them less strictly.
func forms(y *big.Int, bit int64) [][32]byte {
	var all [][32]byte
	for b := range int64(2) {
		for _, n := range []*big.Int{y, plus(y, prime)} {
			if n.BitLen() > 255 || n == y && b == bit {
				continue
			}
			all = append(all, number(plus(n, new(big.Int).Mul(big.NewInt(b), pow2(255)))))
		}
	}
	return all
}

// Keys that are nought's or another small point's bytes in another form are no point's: with the same R and S they are not valid, and R in another form is not that point's bytes.
func TestOtherForms(t *testing.T) {
	one := big.NewInt(1)
	others := forms(one, 0) // nought: x is 0
	if len(others) != 3 {
		t.Fatalf("%d other forms", len(others))
	}
	key, sig := easy(big.NewInt(5))
	_, none := easy(new(big.Int))
	for _, other := range others {
		holds(t, "a key in another form", false, other[:], []byte("text"), sig[:])
		holds(t, "a key and R in another form", false, other[:], []byte("text"), append(other[:], none[32:]...))
		first := joined(other, [32]byte{})
		holds(t, "R in another form", false, key[:], []byte("text"), first[:])
	}
	for _, other := range forms(less(prime, one), 0) { // x is 0, y is -1
		for n := range 8 {
			text := []byte{byte(n)}
			holds(t, "a key of order two in another form", false, other[:], text, sig[:])
			holds(t, "and S 0", false, other[:], text, none[:])
			first := joined(other, [32]byte{})
			holds(t, "R of order two in another form", false, key[:], text, first[:])
		}
	}
}

// The bytes of the points of order four (y is 0) with y as p: the point is there, its bytes are not these.
func TestOtherFormsOfNought(t *testing.T) {
	for bit := range int64(2) {
		proper, ok := spotWith(new(big.Int), uint(bit))
		if !ok {
			t.Fatal("no point of y 0")
		}
		other := number(plus(prime, new(big.Int).Mul(big.NewInt(bit), pow2(255))))
		found := 0
		for n := range 20 {
			text, code := []byte{byte(n)}, proper.code()
			for _, first := range small() {
				sig := joined(first.code(), [32]byte{})
				if oracleVerify(code[:], text, sig[:]) {
					found++
					holds(t, "order four", true, code[:], text, sig[:])
				}
				holds(t, "order four, y as p", false, other[:], text, sig[:])
			}
		}
		if found == 0 {
			t.Error("no text is valid for a key of order four")
		}
	}
}

// noPoints are 32 bytes without a point: without an x for their y, or y not below p.
func noPoints() [][32]byte {
	var all [][32]byte
	for y := int64(0); len(all) < 20; y++ {
		code := number(big.NewInt(y))
		if _, ok := spotOf(code); !ok {
			high := code
			high[31] |= 0x80
			all = append(all, code, high)
		}
	}
	for i := range int64(19) {
		n := plus(prime, big.NewInt(i))
		all = append(all, number(n), number(plus(n, pow2(255))))
	}
	return all
}

func TestNoPoints(t *testing.T) {
	seed, text := [32]byte(drawn(41, 32)), []byte("text")
	proper, own := sign.Public(seed), sign.Sign(seed, text)
	nothing := nought().code()
	for _, b := range noPoints() {
		_, small := easy(big.NewInt(3))
		_, none := easy(new(big.Int))
		holds(t, "a key without a point", false, b[:], text, own[:])
		holds(t, "a key without a point, an easy signature", false, b[:], text, small[:])
		holds(t, "a key without a point, S 0", false, b[:], text, none[:])
		first := joined(b, [32]byte(own[32:]))
		holds(t, "R without a point", false, proper[:], text, first[:])
		first = joined(b, [32]byte{})
		holds(t, "R without a point, the key of nought", false, nothing[:], text, first[:])
		holds(t, "R and key without a point", false, b[:], text, first[:])
	}
	zero, full := make([]byte, 64), bytes.Repeat([]byte{0xff}, 64)
	holds(t, "zeros", false, zero[:32], nil, full)
	holds(t, "ones", false, full[:32], nil, zero)
	holds(t, "ones", false, full[:32], nil, full)
}

// R of small order beside a proper key: valid only where S is k times the seed's number, and R nought.
func TestSmallFirst(t *testing.T) {
	seed := [32]byte(drawn(51, 32))
	a, _ := oracleSecret(seed)
	key := sign.Public(seed)
	for i, first := range small() {
		code, text := first.code(), []byte{byte(i)}
		s := new(big.Int).Mul(oracleHash(code[:], key[:], text), a)
		sig := joined(code, number(s.Mod(s, order)))
		holds(t, "R of small order", i == 0, key[:], text, sig[:])
		sig = joined(code, [32]byte{})
		holds(t, "R of small order, S 0", false, key[:], text, sig[:])
	}
}

func TestDrawn(t *testing.T) {
	for i := range int64(200) {
		key, sig := drawn(5000+i, 32), drawn(6000+i, 64)
		sig[63] &= 0x0f
		if sign.Verify(key, drawn(i, int(i)), sig) {
			t.Errorf("valid by chance: %x %x", key, sig)
		}
		if i < 30 {
			holds(t, "by chance", false, key, nil, sig)
		}
	}
}

// kept is a list with much behind it, and a look whether all of it is as it was.
func kept(t *testing.T, what string, whole []byte, call func()) {
	t.Helper()
	all := whole[:cap(whole)]
	was := slices.Clone(all)
	call()
	if !bytes.Equal(all, was) {
		t.Errorf("%s: what was handed in, or what lies about it, has changed", what)
	}
}

func TestText(t *testing.T) {
	seed := [32]byte(drawn(61, 32))
	key := sign.Public(seed)
	for _, n := range []int{0, 1, 64, 500} {
		list := drawn(62, 1000)
		part := list[100 : 100+n]
		sig := sign.Sign(seed, slices.Clone(part))
		kept(t, "Sign", list, func() {
			if sign.Sign(seed, part) != sig {
				t.Errorf("Sign of %d bytes within a list", n)
			}
		})
		kept(t, "Verify", list, func() {
			if !sign.Verify(key[:], part, sig[:]) {
				t.Errorf("Verify of %d bytes within a list", n)
			}
		})
	}
}

// Key, text and signature are parts of one list, in every order, each with the others and more behind it.
func TestOneList(t *testing.T) {
	seed := [32]byte(drawn(71, 32))
	for _, n := range []int{0, 1, 31, 32, 200} {
		text := drawn(72, n)
		key, sig := sign.Public(seed), sign.Sign(seed, text)
		parts := [][]byte{key[:], text, sig[:]}
		for _, turn := range [][]int{{0, 1, 2}, {0, 2, 1}, {1, 0, 2}, {1, 2, 0}, {2, 0, 1}, {2, 1, 0}} {
			list := make([]byte, 0, 600)
			at := make([][]byte, 3)
			for _, p := range turn {
				list = append(list, parts[p]...)
				at[p] = list[len(list)-len(parts[p]):]
			}
			copy(list[len(list):cap(list)], drawn(73, 600))
			kept(t, "one list", list, func() {
				if !sign.Verify(at[0], at[1], at[2]) {
					t.Errorf("not valid: %v, a text of %d bytes", turn, n)
				}
			})
			kept(t, "one list, signed", list, func() {
				if sign.Sign(seed, at[1]) != sig {
					t.Errorf("signed otherwise: %v, a text of %d bytes", turn, n)
				}
			})
			at[2][0] ^= 1
			kept(t, "one list, not valid", list, func() {
				if sign.Verify(at[0], at[1], at[2]) {
					t.Errorf("valid: %v, a text of %d bytes", turn, n)
				}
			})
		}
	}
}

// A text that is the key, or the signature's first half, or both: parts that are the same memory.
func TestShared(t *testing.T) {
	seed := [32]byte(drawn(81, 32))
	key := sign.Public(seed)
	list := append(key[:], drawn(82, 100)...)
	sig := sign.Sign(seed, list[:32])
	kept(t, "the key as the text", list, func() {
		if !sign.Verify(list[:32], list[:32], sig[:]) || sign.Sign(seed, list[:32]) != sig {
			t.Error("the key as the text")
		}
	})
	none, easy := easy(big.NewInt(9))
	both := append(easy[:], none[:]...)
	kept(t, "the signature as the text", both, func() {
		if !sign.Verify(both[64:], both[:64], both[:64]) || !sign.Verify(both[64:], both[16:90], both[:64]) {
			t.Error("the signature as the text")
		}
	})
}

// What a call answers is its own: changed, it changes no later answer.
func TestOwn(t *testing.T) {
	seed := [32]byte(drawn(91, 32))
	key, sig := sign.Public(seed), sign.Sign(seed, []byte("a"))
	was, signed := key, sig
	clear(key[:])
	clear(sig[:])
	if sign.Public(seed) != was || sign.Sign(seed, []byte("a")) != signed {
		t.Error("a later answer has changed")
	}
	for range 3 {
		if !sign.Verify(was[:], []byte("a"), signed[:]) || sign.Verify(was[:], []byte("b"), signed[:]) {
			t.Error("a later answer has changed")
		}
	}
}

func TestLongText(t *testing.T) {
	seed := [32]byte(drawn(101, 32))
	text := []byte(strings.Repeat("many words ", 1<<17))
	sum := sha512.Sum512(text)
	key, sig := sign.Public(seed), sign.Sign(seed, text)
	if !ed25519.Verify(key[:], text, sig[:]) || !sign.Verify(key[:], text, sig[:]) {
		t.Error("a long text")
	}
	if sign.Verify(key[:], sum[:], sig[:]) {
		t.Error("its hash instead of it")
	}
	text[len(text)-1] ^= 1
	if sign.Verify(key[:], text, sig[:]) {
		t.Error("its last bit changed")
	}
}

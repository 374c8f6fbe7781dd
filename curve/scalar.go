package curve

import "math/bits"

// scalar is a whole number below 2^256 in words, the lowest first.
type scalar [4]uint64

// order is 2^252 + 27742317777372353535851937790883648493.
func order() scalar {
	return scalar{0x5812631a5cf5d3ed, 0x14def9dea2f79cd6, 0, 1 << 60}
}

func wordsOf(a [32]byte) (n scalar) {
	for i, b := range a {
		n[i/8] |= uint64(b) << (i % 8 * 8)
	}
	return n
}

func bytesOf(n scalar) (a [32]byte) {
	for i := range a {
		a[i] = byte(n[i/8] >> (i % 8 * 8))
	}
	return a
}

// lessOrder is a less the order, and whether a is below it: then the first answer is worth nothing.
func lessOrder(a scalar) (n scalar, below bool) {
	var borrow uint64
	for i, w := range order() {
		n[i], borrow = bits.Sub64(a[i], w, borrow)
	}
	return n, borrow == 1
}

// together is a and b modulo the order, for numbers below it, which have room in four words.
func together(a, b scalar) (n scalar) {
	var carry uint64
	for i := range n {
		n[i], carry = bits.Add64(a[i], b[i], carry)
	}
	if less, below := lessOrder(n); !below {
		return less
	}
	return n
}

// manyOf is a, which is below the order, taken as often as the number b tells, the lowest byte first: by b's bits from the highest on.
func manyOf(b []byte, a scalar) (n scalar) {
	for bit := 8*len(b) - 1; bit >= 0; bit-- {
		n = together(n, n)
		if b[bit/8]>>(bit%8)&1 == 1 {
			n = together(n, a)
		}
	}
	return n
}

package field

import "math/bits"

// number is a whole number below 2^256 in words, the lowest first. One below p is the only such one for its element: there == tells whether two elements are the same.
type number [4]uint64

const (
	fold255 = 19 // what 2^255 stands for
	fold256 = 38 // what 2^256 stands for

	below255 = 1<<63 - 1 // the bits of the last word that are below 2^255
)

// prime is p, 2^255 - 19.
func prime() number {
	return number{1<<64 - 19, 1<<64 - 1, 1<<64 - 1, 1<<63 - 1}
}

// inverseExponent is p - 2: of an element that isn't 0 the power p - 1 is 1.
func inverseExponent() number {
	return number{1<<64 - 21, 1<<64 - 1, 1<<64 - 1, 1<<63 - 1}
}

// rootExponent is (p + 3) / 8: twice that is (p - 1) / 4 and 1, and of a square the power (p - 1) / 4 is 1 or -1.
func rootExponent() number {
	return number{1<<64 - 2, 1<<64 - 1, 1<<64 - 1, 1<<60 - 1}
}

// rootOfMinusOne is 2 to the power (p - 1) / 4.
func rootOfMinusOne() number {
	return number{0xc4ee1b274a0ea0b0, 0x2f431806ad2fe478, 0x2b4d00993dfbd7a7, 0x2b8324804fc1df0b}
}

func wordsOf(a [32]byte) (n number) {
	for i := range n {
		n[i] = word(a[8*i : 8*i+8])
	}
	return n
}

func bytesOf(n number) (a [32]byte) {
	for i, w := range n {
		putWord(a[8*i:8*i+8], w)
	}
	return a
}

// word and putWord are written out, since so each is a single step for the machine: every call of this layer goes through them.
func word(b []byte) uint64 {
	return uint64(b[0]) | uint64(b[1])<<8 | uint64(b[2])<<16 | uint64(b[3])<<24 |
		uint64(b[4])<<32 | uint64(b[5])<<40 | uint64(b[6])<<48 | uint64(b[7])<<56
}

func putWord(b []byte, w uint64) {
	b[0], b[1], b[2], b[3] = byte(w), byte(w>>8), byte(w>>16), byte(w>>24)
	b[4], b[5], b[6], b[7] = byte(w>>32), byte(w>>40), byte(w>>48), byte(w>>56)
}

// plus is the sum modulo 2^256, and 1 where it goes over that.
func plus(a, b number) (number, uint64) {
	n0, carry := bits.Add64(a[0], b[0], 0)
	n1, carry := bits.Add64(a[1], b[1], carry)
	n2, carry := bits.Add64(a[2], b[2], carry)
	n3, carry := bits.Add64(a[3], b[3], carry)
	return number{n0, n1, n2, n3}, carry
}

// plusWord is plus for a number of a single word.
func plusWord(a number, w uint64) (number, uint64) {
	n0, carry := bits.Add64(a[0], w, 0)
	n1, carry := bits.Add64(a[1], 0, carry)
	n2, carry := bits.Add64(a[2], 0, carry)
	n3, carry := bits.Add64(a[3], 0, carry)
	return number{n0, n1, n2, n3}, carry
}

// minus is the difference modulo 2^256, and 1 where b is the greater one.
func minus(a, b number) (number, uint64) {
	n0, borrow := bits.Sub64(a[0], b[0], 0)
	n1, borrow := bits.Sub64(a[1], b[1], borrow)
	n2, borrow := bits.Sub64(a[2], b[2], borrow)
	n3, borrow := bits.Sub64(a[3], b[3], borrow)
	return number{n0, n1, n2, n3}, borrow
}

// reduced is the number below p for the same element.
func reduced(a number) number {
	high := a[3] >> 63
	a[3] &= below255
	a, _ = plusWord(a, fold255*high)
	// Now a is below 2 p. It is p or more just where 19 more reach 2^255, and then a less p is what is above that.
	less, _ := plusWord(a, fold255)
	if less[3]>>63 == 1 {
		less[3] &= below255
		return less
	}
	return a
}

// sum is a and b together, for numbers below p, which have room in four words.
func sum(a, b number) number {
	n, _ := plus(a, b)
	return reduced(n)
}

// difference is a less b, for numbers below p.
func difference(a, b number) number {
	n, borrow := minus(a, b)
	if borrow == 1 {
		n, _ = plus(n, prime())
	}
	return n
}

// product is a times b, for any numbers.
func product(a, b number) number {
	n, high := folded(whole(a, b))
	// high is at most 38. If the next sum goes over 2^256, what is left of it is below 38 times 38, and doesn't go over once more.
	n, over := plusWord(n, fold256*high)
	n, _ = plusWord(n, fold256*over)
	return reduced(n)
}

// whole is the product of whole numbers.
func whole(a, b number) (all [8]uint64) {
	for i, x := range a {
		var high uint64
		for j, y := range b {
			all[i+j], high = timesPlus(x, y, all[i+j], high)
		}
		all[i+4] = high
	}
	return all
}

// folded is the lower half and 38 times the upper one; the fifth word of that stands beside.
func folded(all [8]uint64) (n number, high uint64) {
	for i := range n {
		n[i], high = timesPlus(fold256, all[i+4], all[i], high)
	}
	return n, high
}

// timesPlus is x times y and c and d: two words have room for all of that.
func timesPlus(x, y, c, d uint64) (low, high uint64) {
	high, low = bits.Mul64(x, y)
	low, carry := bits.Add64(low, c, 0)
	high += carry
	low, carry = bits.Add64(low, d, 0)
	return low, high + carry
}

// power is the product of exponent times a.
func power(a, exponent number) number {
	n := number{1}
	for i := 255; i >= 0; i-- {
		n = product(n, n)
		if exponent[i/64]>>(i%64)&1 == 1 {
			n = product(n, a)
		}
	}
	return n
}

// even is a or its negative, for a below p: since p is odd, just one of them is even, but for 0.
func even(a number) number {
	if a[0]&1 == 1 {
		return difference(number{}, a)
	}
	return a
}

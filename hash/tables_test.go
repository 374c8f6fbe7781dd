package hash

import (
	"math/big"
	"testing"
)

// firstPrimes are the first n of them, each number tried by all below it.
func firstPrimes(n int) []int64 {
	var primes []int64
	for p := int64(2); len(primes) < n; p++ {
		prime := true
		for d := int64(2); d < p; d++ {
			prime = prime && p%d != 0
		}
		if prime {
			primes = append(primes, p)
		}
	}
	return primes
}

// behindPoint tells whether bits are the first 64 behind the point of the degree-th root of p: for one whole number n ahead of the point
// (n + bits/2^64)^degree is at most p, and (n + (bits+1)/2^64)^degree is more.
func behindPoint(bits uint64, p, degree int64) bool {
	scaled := new(big.Int).Lsh(big.NewInt(p), uint(64*degree))
	for n := int64(0); n <= p; n++ {
		low := new(big.Int).Lsh(big.NewInt(n), 64)
		low.Add(low, new(big.Int).SetUint64(bits))
		high := new(big.Int).Add(low, big.NewInt(1))
		low.Exp(low, big.NewInt(degree), nil)
		high.Exp(high, big.NewInt(degree), nil)
		if low.Cmp(scaled) <= 0 && high.Cmp(scaled) > 0 {
			return true
		}
	}
	return false
}

func TestTables(t *testing.T) {
	for i, p := range firstPrimes(len(cubeRoots)) {
		if !behindPoint(cubeRoots[i], p, 3) {
			t.Errorf("K(%d): %016x isn't of the cube root of %d", i, cubeRoots[i], p)
		}
	}
	for i, p := range firstPrimes(len(squareRoots)) {
		if !behindPoint(squareRoots[i], p, 2) {
			t.Errorf("H(%d): %016x isn't of the square root of %d", i, squareRoots[i], p)
		}
	}
	if behindPoint(cubeRoots[0]+1, 2, 3) || behindPoint(cubeRoots[0]-1, 2, 3) {
		t.Error("any word is of the cube root of 2")
	}
}

// TestCutWords: both widths read the same tables; a word of 32 bits is the first half of one of 64.
func TestCutWords(t *testing.T) {
	narrow, wide := shapeOf(false), shapeOf(true)
	if narrow.rounds != 64 || wide.rounds != 80 {
		t.Error("another number of rounds")
	}
	for _, root := range cubeRoots {
		if firstBits[uint32](root, narrow) != uint32(root>>32) || firstBits[uint64](root, wide) != root {
			t.Errorf("the first bits of %016x are others", root)
		}
	}
	if firstWords[uint32](narrow)[0] != 0x6a09e667 || firstWords[uint64](wide)[7] != 0x5be0cd19137e2179 {
		t.Error("another beginning")
	}
}

// TestLengthOfAny: the number of bits takes two words, more than a test can write bytes for.
func TestLengthOfAny(t *testing.T) {
	for _, c := range []struct {
		wide   bool
		length uint64
		want   string // the last bytes
	}{
		{false, 0, "\x00\x00\x00\x00\x00\x00\x00\x00"},
		{false, 1<<29 - 1, "\x00\x00\x00\x00\xff\xff\xff\xf8"},
		{false, 1 << 29, "\x00\x00\x00\x01\x00\x00\x00\x00"},
		{false, 1<<31 - 1, "\x00\x00\x00\x03\xff\xff\xff\xf8"},
		{true, 0, "\x00\x00\x00\x00\x00\x00\x00\x00\x00\x00\x00\x00\x00\x00\x00\x00"},
		{true, 1<<31 - 1, "\x00\x00\x00\x00\x00\x00\x00\x00\x00\x00\x00\x03\xff\xff\xff\xf8"},
		{true, 1<<61 + 3, "\x00\x00\x00\x00\x00\x00\x00\x01\x00\x00\x00\x00\x00\x00\x00\x18"},
	} {
		var end []byte
		if s := shapeOf(c.wide); c.wide {
			end = filledUp[uint64](nil, c.length, s)
		} else {
			end = filledUp[uint32](nil, c.length, s)
		}
		if got := string(end[len(end)-len(c.want):]); got != c.want {
			t.Errorf("wide %v, %d bytes: %x", c.wide, c.length, got)
		}
	}
}

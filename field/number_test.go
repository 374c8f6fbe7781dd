package field

import (
	"math/big"
	"testing"
)

func great(n number) *big.Int {
	sum := new(big.Int)
	for i := 3; i >= 0; i-- {
		sum.Add(sum.Lsh(sum, 64), new(big.Int).SetUint64(n[i]))
	}
	return sum
}

func ratio(add, by int64) *big.Int {
	p := new(big.Int).Sub(new(big.Int).Lsh(big.NewInt(1), 255), big.NewInt(19))
	n, rest := p.Add(p, big.NewInt(add)).QuoRem(p, big.NewInt(by), new(big.Int))
	if rest.Sign() != 0 {
		panic("a rest")
	}
	return n
}

// TestConstants works them out from what they are to be.
func TestConstants(t *testing.T) {
	for _, c := range []struct {
		what string
		got  number
		want *big.Int
	}{
		{"p", prime(), ratio(0, 1)},
		{"p - 2", inverseExponent(), ratio(-2, 1)},
		{"(p + 3) / 8", rootExponent(), ratio(3, 8)},
		{"2 to the power (p - 1) / 4", rootOfMinusOne(), new(big.Int).Exp(big.NewInt(2), ratio(-1, 4), ratio(0, 1))},
	} {
		if great(c.got).Cmp(c.want) != 0 {
			t.Errorf("%s: %x; not %x", c.what, great(c.got), c.want)
		}
	}
	if n := new(big.Int).Exp(great(rootOfMinusOne()), big.NewInt(2), ratio(0, 1)); n.Cmp(ratio(-1, 1)) != 0 {
		t.Errorf("the square of the root of -1: %x", n)
	}
	for bits, want := range map[uint]int64{255: fold255, 256: fold256} {
		n := new(big.Int).Lsh(big.NewInt(1), bits)
		if n.Mod(n, ratio(0, 1)).Int64() != want {
			t.Errorf("2^%d stands for %v", bits, n)
		}
	}
}

// TestPower: exponents of few bits, at all of their places.
func TestPower(t *testing.T) {
	p := ratio(0, 1)
	for _, a := range []number{{}, {1}, {2}, {3}, {1<<64 - 20, 1<<64 - 1, 1<<64 - 1, 1<<63 - 1}, {5, 6, 7, 8}} {
		for _, e := range []number{{}, {1}, {2}, {3}, {10}, {0, 1}, {0, 1 << 63}, {1, 0, 1}, {0, 0, 0, 1 << 63}, {1<<64 - 1, 1<<64 - 1, 1<<64 - 1, 1<<64 - 1}} {
			if got, want := great(power(a, e)), new(big.Int).Exp(great(a), great(e), p); got.Cmp(want) != 0 {
				t.Errorf("%v to the power %v: %x; not %x", a, e, got, want)
			}
		}
	}
}

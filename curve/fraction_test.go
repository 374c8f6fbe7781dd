package curve

import (
	"math/big"
	"testing"

	"covey/api"
	"covey/field"
)

func greatOf(n [32]byte) *big.Int {
	sum := new(big.Int)
	for i := 31; i >= 0; i-- {
		sum.Add(sum.Lsh(sum, 8), big.NewInt(int64(n[i])))
	}
	return sum
}

// TestConstants works them out from what they are to be.
func TestConstants(t *testing.T) {
	p := new(big.Int).Sub(new(big.Int).Lsh(big.NewInt(1), 255), big.NewInt(19))
	d := greatOf(factor())
	if n := new(big.Int).Mul(d, big.NewInt(121666)); n.Add(n, big.NewInt(121665)).Mod(n, p).Sign() != 0 || d.Cmp(p) >= 0 {
		t.Errorf("d: %x", d)
	}
	if big.Jacobi(d, p) != -1 || big.Jacobi(new(big.Int).Sub(p, big.NewInt(1)), p) != 1 {
		t.Errorf("d is a square, or -1 is none")
	}
	rest, _ := new(big.Int).SetString("27742317777372353535851937790883648493", 10)
	if n := greatOf(bytesOf(order())); n.Sub(n, rest).Cmp(new(big.Int).Lsh(big.NewInt(1), 252)) != 0 {
		t.Errorf("the order less its rest: %x", n)
	}
}

// TestDenominators: a fraction that is widened stands for the same point, in sums and doubles.
func TestDenominators(t *testing.T) {
	p := Base()
	q, _ := Times([32]byte{77}, p)
	for _, by := range [][32]byte{{1}, {2}, {200, 3}, {9, 31: 0x7f}} {
		wide := fraction{api.Point{X: field.Mul(p.X, by), Y: field.Mul(p.Y, by)}, by}
		if got := divided(wide); got != p {
			t.Errorf("divided: %x", got)
		}
		if got := divided(twice(wide)); got != divided(sum(wide, overOne(p))) || got != divided(sum(overOne(p), wide)) {
			t.Errorf("twice: %x", got)
		}
		if got := divided(sum(wide, overOne(q))); got != divided(sum(overOne(q), wide)) || got != divided(sum(overOne(p), overOne(q))) {
			t.Errorf("sum: %x", got)
		}
	}
}

// TestWords: words and bytes, there and back, every bit at its place.
func TestWords(t *testing.T) {
	for bit := range 256 {
		var a [32]byte
		a[bit/8] = 1 << (bit % 8)
		var n scalar
		n[bit/64] = 1 << (bit % 64)
		if wordsOf(a) != n || bytesOf(n) != a {
			t.Errorf("bit %d: %x, %x", bit, wordsOf(a), bytesOf(n))
		}
	}
}

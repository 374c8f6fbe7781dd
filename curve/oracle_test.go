package curve_test

import (
	"math/big"

	"covey/api"
)

// The oracle reckons with whole numbers without bounds, by the chapter's definition: pairs without a denominator, divided at every sum.

var (
	one   = big.NewInt(1)
	two   = big.NewInt(2)
	prime = new(big.Int).Sub(pow2(255), big.NewInt(19))
	order = new(big.Int).Add(pow2(252), great("27742317777372353535851937790883648493"))
	d     = quotient(big.NewInt(-121665), big.NewInt(121666))
)

func pow2(n uint) *big.Int { return new(big.Int).Lsh(big.NewInt(1), n) }

func great(digits string) *big.Int {
	n, ok := new(big.Int).SetString(digits, 10)
	if !ok {
		panic("no number: " + digits)
	}
	return n
}

func plus(a *big.Int, b int64) *big.Int { return new(big.Int).Add(a, big.NewInt(b)) }

func product(all ...*big.Int) *big.Int {
	n := big.NewInt(1)
	for _, a := range all {
		n.Mul(n, a)
	}
	return n
}

func mod(a *big.Int) *big.Int { return new(big.Int).Mod(a, prime) }

// quotient is a / b in the field.
func quotient(a, b *big.Int) *big.Int {
	inverse := new(big.Int).ModInverse(mod(b), prime)
	if inverse == nil {
		panic("divided by 0")
	}
	return mod(new(big.Int).Mul(a, inverse))
}

// whole is the number that bytes are, added up byte by byte.
func whole(b []byte) *big.Int {
	n := new(big.Int)
	for i, c := range b {
		n.Add(n, new(big.Int).Lsh(big.NewInt(int64(c)), uint(8*i)))
	}
	return n
}

// number is the 32 bytes of n, 0 to 2^256 - 1.
func number(n *big.Int) (a [32]byte) {
	if n.Sign() < 0 || n.BitLen() > 256 {
		panic("no room for " + n.String())
	}
	rest, b := new(big.Int).Set(n), new(big.Int)
	for i := range a {
		rest.DivMod(rest, big.NewInt(256), b)
		a[i] = byte(b.Int64())
	}
	return a
}

// spot is a pair of elements, each below p.
type spot struct{ x, y *big.Int }

func (s spot) point() api.Point { return api.Point{X: number(s.x), Y: number(s.y)} }

func (s spot) same(o spot) bool { return s.x.Cmp(o.x) == 0 && s.y.Cmp(o.y) == 0 }

func spotOf(p api.Point) spot { return spot{mod(whole(p.X[:])), mod(whole(p.Y[:]))} }

func oracleNought() spot { return spot{new(big.Int), big.NewInt(1)} }

func oracleIs(s spot) bool {
	xx, yy := product(s.x, s.x), product(s.y, s.y)
	left := mod(new(big.Int).Sub(yy, xx))
	return left.Cmp(mod(plus(product(d, xx, yy), 1))) == 0
}

func oracleAdd(a, b spot) spot {
	x := new(big.Int).Add(product(a.x, b.y), product(b.x, a.y))
	y := new(big.Int).Add(product(a.y, b.y), product(a.x, b.x))
	share := mod(product(d, a.x, b.x, a.y, b.y))
	return spot{quotient(x, plus(share, 1)), quotient(y, new(big.Int).Sub(one, share))}
}

func oracleNeg(a spot) spot { return spot{mod(new(big.Int).Neg(a.x)), a.y} }

// oracleTimes goes from k's lowest bit on, while a doubles.
func oracleTimes(k *big.Int, a spot) spot {
	many := oracleNought()
	for i := range k.BitLen() {
		if k.Bit(i) == 1 {
			many = oracleAdd(many, a)
		}
		a = oracleAdd(a, a)
	}
	return many
}

func oracleEncode(a spot) [32]byte {
	return number(new(big.Int).Add(a.y, new(big.Int).Lsh(big.NewInt(int64(a.x.Bit(0))), 255)))
}

// oracleWith is the point of y (below p) whose x has that lowest bit; false: there is none.
func oracleWith(y *big.Int, bit uint) (spot, bool) {
	yy := product(y, y)
	xx := quotient(plus(yy, -1), plus(product(d, yy), 1))
	if big.Jacobi(xx, prime) < 0 {
		return spot{}, false
	}
	x := new(big.Int).ModSqrt(xx, prime)
	if x.Bit(0) != bit {
		x = mod(new(big.Int).Neg(x))
	}
	return spot{x, y}, x.Bit(0) == bit
}

func oracleDecode(b [32]byte) (spot, bool) {
	bit := uint(b[31] >> 7)
	b[31] &= 127
	y := whole(b[:])
	if y.Cmp(prime) >= 0 {
		return spot{}, false
	}
	return oracleWith(y, bit)
}

func oracleBase() spot {
	s, ok := oracleWith(quotient(big.NewInt(4), big.NewInt(5)), 0)
	if !ok {
		panic("no base point")
	}
	return s
}

func oracleScalar(b []byte) [32]byte { return number(new(big.Int).Mod(whole(b), order)) }

func oracleMulAdd(a, b, c [32]byte) [32]byte {
	n := product(whole(a[:]), whole(b[:]))
	n.Add(n, whole(c[:]))
	return number(n.Mod(n, order))
}

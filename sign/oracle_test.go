package sign_test

import (
	"crypto/sha512"
	"math/big"
)

// The oracle tells the definition once more, with whole numbers without bounds and the library's hash; it calls nothing of the program.

var (
	prime = new(big.Int).Sub(pow2(255), big.NewInt(19))
	order = new(big.Int).Add(pow2(252), great("27742317777372353535851937790883648493"))
	d     = quotient(big.NewInt(-121665), big.NewInt(121666))
)

func pow2(n uint) *big.Int { return new(big.Int).Lsh(big.NewInt(1), n) }

func great(digits string) *big.Int {
	n, ok := new(big.Int).SetString(digits, 10)
	if !ok {
		panic("no number: " + digits)
	}
	return n
}

func plus(a, b *big.Int) *big.Int { return new(big.Int).Add(a, b) }

func less(a, b *big.Int) *big.Int { return new(big.Int).Sub(a, b) }

func mod(a *big.Int) *big.Int { return new(big.Int).Mod(a, prime) }

func product(a, b *big.Int) *big.Int { return mod(new(big.Int).Mul(a, b)) }

// quotient is a / b in the field.
func quotient(a, b *big.Int) *big.Int { return product(a, new(big.Int).ModInverse(mod(b), prime)) }

// whole is the number that bytes are.
func whole(b []byte) *big.Int {
	n := new(big.Int)
	for i := range b {
		n.Add(n.Lsh(n, 8), big.NewInt(int64(b[len(b)-1-i])))
	}
	return n
}

// number is the 32 bytes of n, 0 to 2^256 - 1.
func number(n *big.Int) (a [32]byte) {
	for i, b := range n.FillBytes(make([]byte, 32)) {
		a[31-i] = b
	}
	return a
}

// spot is a point: x over z, y over z.
type spot struct{ x, y, z *big.Int }

func nought() spot { return spot{new(big.Int), big.NewInt(1), big.NewInt(1)} }

// and is the sum by the curve's law, all of it over one denominator.
func (a spot) and(b spot) spot {
	z := product(a.z, b.z)
	zz := product(z, z)
	share := product(d, product(product(a.x, b.x), product(a.y, b.y)))
	low, high := mod(less(zz, share)), mod(plus(zz, share))
	x := plus(product(a.x, b.y), product(b.x, a.y))
	y := plus(product(a.y, b.y), product(a.x, b.x))
	return spot{product(product(z, x), low), product(product(z, y), high), product(low, high)}
}

func (a spot) minus() spot { return spot{mod(new(big.Int).Neg(a.x)), a.y, a.z} }

func (a spot) times(k *big.Int) spot {
	many := nought()
	for i := range k.BitLen() {
		if k.Bit(i) == 1 {
			many = many.and(a)
		}
		a = a.and(a)
	}
	return many
}

func (a spot) code() [32]byte {
	b := number(quotient(a.y, a.z))
	b[31] |= byte(quotient(a.x, a.z).Bit(0)) << 7
	return b
}

// spotWith is the point of y (below p) whose x has that lowest bit; false: there is none.
func spotWith(y *big.Int, bit uint) (spot, bool) {
	yy, one := product(y, y), big.NewInt(1)
	x := new(big.Int).ModSqrt(quotient(less(yy, one), plus(product(d, yy), one)), prime)
	if x == nil {
		return spot{}, false
	}
	if x.Bit(0) != bit {
		x = mod(new(big.Int).Neg(x))
	}
	return spot{x, y, one}, x.Bit(0) == bit
}

func spotOf(code [32]byte) (spot, bool) {
	bit := uint(code[31] >> 7)
	code[31] &= 127
	y := whole(code[:])
	if y.Cmp(prime) >= 0 {
		return spot{}, false
	}
	return spotWith(y, bit)
}

func oracleBase() spot {
	s, ok := spotWith(quotient(big.NewInt(4), big.NewInt(5)), 0)
	if !ok {
		panic("no base point")
	}
	return s
}

// oracleHash is the hash of the parts, one behind the other, modulo the order.
func oracleHash(parts ...[]byte) *big.Int {
	h := sha512.New()
	for _, p := range parts {
		h.Write(p)
	}
	n := whole(h.Sum(nil))
	return n.Mod(n, order)
}

func oracleSecret(seed [32]byte) (*big.Int, []byte) {
	h := sha512.Sum512(seed[:])
	a := whole(h[:32])
	for _, bit := range []int{0, 1, 2, 255} {
		a.SetBit(a, bit, 0)
	}
	return a.SetBit(a, 254, 1), h[32:]
}

func oraclePublic(seed [32]byte) [32]byte {
	a, _ := oracleSecret(seed)
	return oracleBase().times(a).code()
}

func oracleSign(seed [32]byte, text []byte) [64]byte {
	a, mark := oracleSecret(seed)
	key := oracleBase().times(a).code()
	r := oracleHash(mark, text)
	first := oracleBase().times(r).code()
	k := oracleHash(first[:], key[:], text)
	s := plus(r, new(big.Int).Mul(k, a))
	return joined(first, number(s.Mod(s, order)))
}

func oracleVerify(key, text, sig []byte) bool {
	if len(key) != 32 || len(sig) != 64 {
		return false
	}
	signer, ok := spotOf([32]byte(key))
	s := whole(sig[32:])
	if !ok || s.Cmp(order) >= 0 {
		return false
	}
	k := oracleHash(sig[:32], key, text)
	all := oracleBase().times(s).and(signer.times(k).minus())
	return all.code() == [32]byte(sig[:32])
}

func joined(first, last [32]byte) (sig [64]byte) {
	copy(sig[:32], first[:])
	copy(sig[32:], last[:])
	return sig
}

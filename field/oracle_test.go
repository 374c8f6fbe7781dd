package field_test

import "math/big"

// The oracle reckons with whole numbers without bounds, and takes what is left behind a division by p.

var (
	one   = big.NewInt(1)
	two   = big.NewInt(2)
	prime = new(big.Int).Sub(pow2(255), big.NewInt(19))
)

func pow2(n uint) *big.Int { return new(big.Int).Lsh(big.NewInt(1), n) }

// whole is the number that 32 bytes are, added up byte by byte.
func whole(a [32]byte) *big.Int {
	n := new(big.Int)
	for i, b := range a {
		n.Add(n, new(big.Int).Lsh(big.NewInt(int64(b)), uint(8*i)))
	}
	return n
}

// number is the 32 bytes of n, 0 to 2^256 - 1, each what is left behind a division by 256.
func number(n *big.Int) [32]byte {
	if n.Sign() < 0 || n.BitLen() > 256 {
		panic("no room for " + n.String())
	}
	var a [32]byte
	rest, b := new(big.Int).Set(n), new(big.Int)
	for i := range a {
		rest.DivMod(rest, big.NewInt(256), b)
		a[i] = byte(b.Int64())
	}
	return a
}

// of is the answer that stands for n, which may be any whole number.
func of(n *big.Int) [32]byte { return number(new(big.Int).Mod(n, prime)) }

func small(n int64) [32]byte { return number(big.NewInt(n)) }

func oracleAdd(a, b [32]byte) [32]byte { return of(new(big.Int).Add(whole(a), whole(b))) }
func oracleSub(a, b [32]byte) [32]byte { return of(new(big.Int).Sub(whole(a), whole(b))) }
func oracleMul(a, b [32]byte) [32]byte { return of(new(big.Int).Mul(whole(a), whole(b))) }
func oracleReduce(a [32]byte) [32]byte { return of(whole(a)) }

// oracleInv finds the inverse by the steps of the greatest common divisor; false: there is none.
func oracleInv(a [32]byte) ([32]byte, bool) {
	n := new(big.Int).ModInverse(new(big.Int).Mod(whole(a), prime), prime)
	if n == nil {
		return [32]byte{}, false
	}
	return of(n), true
}

// oracleRoot finds the even root; false: there is none.
func oracleRoot(a [32]byte) ([32]byte, bool) {
	n := new(big.Int).Mod(whole(a), prime)
	// The symbol is worked out by the law of the two primes, not by powers.
	if big.Jacobi(n, prime) < 0 {
		return [32]byte{}, false
	}
	root := new(big.Int).ModSqrt(n, prime)
	if root.Bit(0) == 1 {
		root.Sub(prime, root)
	}
	return of(root), true
}

package sign

import (
	"covey/api"
	"covey/curve"
	"covey/hash"
)

// challenge is the number that binds a signature's first half to a key and a text.
func challenge(first, key, text []byte) [32]byte { return hashed(first, key, text) }

// hashed is the hash of the parts, one behind the other, modulo the order.
func hashed(first []byte, others ...[]byte) [32]byte {
	// What lies behind the first part may be somebody's (a signature's second half): without room for it, what is laid there takes a new list.
	list := first[:len(first):len(first)]
	for _, part := range others {
		list = append(list, part...)
	}
	sum := hash.Sum512(list)
	// Scalar refuses only what is longer than a hash.
	k, _ := curve.Scalar(sum[:])
	return k
}

// timesBase is the bytes of k times the base point.
func timesBase(k [32]byte) [32]byte { return code(times(k, curve.Base())) }

// timesBaseLess is the bytes of s times the base point, less k times p.
func timesBaseLess(s, k [32]byte, p api.Point) [32]byte {
	minus, _ := curve.Neg(times(k, p))
	all, _ := curve.Add(times(s, curve.Base()), minus)
	return code(all)
}

// The calls of curve below and above refuse only what doesn't lie on the curve; the base point, what Decode answers, and what is made of them does.

func times(k [32]byte, p api.Point) api.Point {
	q, _ := curve.Times(k, p)
	return q
}

func code(p api.Point) [32]byte {
	b, _ := curve.Encode(p)
	return b
}

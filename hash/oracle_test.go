package hash_test

import (
	"math/big"
	"sync"
)

// The oracle tells the definition once more, in another make: whole numbers without bounds, cut to the width behind each step; constants worked out; the text filled up by a count of its bits.

type oracle struct {
	width  int
	rounds int
	s0, s1 [3]int // turned, turned, shifted
	b0, b1 [3]int // turned
	cubes  []uint64
	roots  []uint64
}

// fraction is the first width bits behind the point of the degree-th root of p, found bit by bit.
func fraction(p int64, degree, width int) uint64 {
	scaled := new(big.Int).Lsh(big.NewInt(p), uint(width*degree))
	root := new(big.Int)
	for bit := width + 8; bit >= 0; bit-- {
		tried := new(big.Int).SetBit(root, bit, 1)
		if new(big.Int).Exp(tried, big.NewInt(int64(degree)), nil).Cmp(scaled) <= 0 {
			root = tried
		}
	}
	return root.And(root, new(big.Int).Sub(new(big.Int).Lsh(big.NewInt(1), uint(width)), big.NewInt(1))).Uint64()
}

func (o *oracle) fill() *oracle {
	for p := int64(2); len(o.cubes) < o.rounds; p++ {
		if !big.NewInt(p).ProbablyPrime(10) {
			continue
		}
		o.cubes = append(o.cubes, fraction(p, 3, o.width))
		if len(o.roots) < 8 {
			o.roots = append(o.roots, fraction(p, 2, o.width))
		}
	}
	return o
}

var oracleOf = sync.OnceValue(func() map[bool]*oracle {
	narrow := &oracle{width: 32, rounds: 64, s0: [3]int{7, 18, 3}, s1: [3]int{17, 19, 10}, b0: [3]int{2, 13, 22}, b1: [3]int{6, 11, 25}}
	wide := &oracle{width: 64, rounds: 80, s0: [3]int{1, 8, 7}, s1: [3]int{19, 61, 6}, b0: [3]int{28, 34, 39}, b1: [3]int{14, 18, 41}}
	return map[bool]*oracle{false: narrow.fill(), true: wide.fill()}
})

// cut is x modulo 2 to the width.
func (o *oracle) cut(x uint64) uint64 { return x << (64 - o.width) >> (64 - o.width) }

// bit is that of the place i of x, from the lowest on; beyond the width, the places come round.
func (o *oracle) bit(x uint64, i int) uint64 { return x >> (i % o.width) & 1 }

// rot makes the turned word bit by bit.
func (o *oracle) rot(x uint64, n int) uint64 {
	var y uint64
	for i := range o.width {
		y |= o.bit(x, i+n) << i
	}
	return y
}

func (o *oracle) small(x uint64, n [3]int) uint64 { return o.rot(x, n[0]) ^ o.rot(x, n[1]) ^ x>>n[2] }
func (o *oracle) great(x uint64, n [3]int) uint64 {
	return o.rot(x, n[0]) ^ o.rot(x, n[1]) ^ o.rot(x, n[2])
}

// chosen and majority are made bit by bit.
func (o *oracle) chosen(e, f, g uint64) uint64 {
	var y uint64
	for i := range o.width {
		if o.bit(e, i) == 1 {
			y |= o.bit(f, i) << i
		} else {
			y |= o.bit(g, i) << i
		}
	}
	return y
}

func (o *oracle) majority(a, b, c uint64) uint64 {
	var y uint64
	for i := range o.width {
		y |= (o.bit(a, i) + o.bit(b, i) + o.bit(c, i)) >> 1 << i
	}
	return y
}

func (o *oracle) fillUp(text []byte) []byte {
	block, number := 2*o.width, o.width/4
	noughts := 0
	for (len(text)+1+noughts+number)%block != 0 {
		noughts++
	}
	full := append(append([]byte{}, text...), 0x80)
	full = append(full, make([]byte, noughts)...)
	bits := new(big.Int).Mul(big.NewInt(int64(len(text))), big.NewInt(8))
	return append(full, bits.FillBytes(make([]byte, number))...)
}

// digest is that of the text, told as the chapter tells it.
func (o *oracle) digest(text []byte) []byte {
	h := append([]uint64{}, o.roots...)
	for full := o.fillUp(text); len(full) > 0; full = full[2*o.width:] {
		w := make([]uint64, o.rounds)
		for i := range w {
			if i < 16 {
				w[i] = new(big.Int).SetBytes(full[i*o.width/8 : (i+1)*o.width/8]).Uint64()
			} else {
				w[i] = o.cut(o.small(w[i-2], o.s1) + w[i-7] + o.small(w[i-15], o.s0) + w[i-16])
			}
		}
		v := append([]uint64{}, h...)
		for i := range w {
			t := o.cut(v[7] + o.great(v[4], o.b1) + o.chosen(v[4], v[5], v[6]) + o.cubes[i] + w[i])
			u := o.cut(o.great(v[0], o.b0) + o.majority(v[0], v[1], v[2]))
			v = []uint64{o.cut(t + u), v[0], v[1], v[2], o.cut(v[3] + t), v[4], v[5], v[6]}
		}
		for i := range h {
			h[i] = o.cut(h[i] + v[i])
		}
	}
	var sum []byte
	for _, x := range h {
		sum = append(sum, new(big.Int).SetUint64(x).FillBytes(make([]byte, o.width/8))...)
	}
	return sum
}

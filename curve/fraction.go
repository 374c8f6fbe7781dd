package curve

import (
	"covey/api"
	"covey/field"
)

// fraction is a point of the curve with a denominator, which is never 0: it stands for (X / under, Y / under). So of many sums only the last one is divided, which takes as long as some hundred products.
type fraction struct {
	api.Point
	under [32]byte
}

// factor is d, -121665 / 121666.
func factor() [32]byte {
	return [32]byte{
		0xa3, 0x78, 0x59, 0x13, 0xca, 0x4d, 0xeb, 0x75, 0xab, 0xd8, 0x41, 0x41, 0x4d, 0x0a, 0x70, 0x00,
		0x98, 0xe8, 0x79, 0x77, 0x79, 0x40, 0xc7, 0x8c, 0x73, 0xfe, 0x6f, 0x2b, 0xee, 0x6c, 0x03, 0x52,
	}
}

func one() [32]byte { return [32]byte{1} }

func overOne(p api.Point) fraction { return fraction{p, one()} }

func nought() fraction { return overOne(api.Point{Y: one()}) }

// divided is the point that f stands for.
func divided(f fraction) api.Point {
	// There is always an inverse, since no denominator is 0.
	inverse, _ := field.Inv(f.under)
	return api.Point{X: field.Mul(f.X, inverse), Y: field.Mul(f.Y, inverse)}
}

// negative is the other point of that y, or the same one where x is 0.
func negative(p api.Point) api.Point {
	return api.Point{X: field.Sub([32]byte{}, p.X), Y: field.Reduce(p.Y)}
}

// sum is a and b together: the definition's two fractions, whose denominators are plus and minus over the square of the common one.
func sum(a, b fraction) fraction {
	common := field.Mul(a.under, b.under)
	square := field.Mul(common, common)
	xx, yy := field.Mul(a.X, b.X), field.Mul(a.Y, b.Y)
	share := field.Mul(factor(), field.Mul(xx, yy))
	plus, minus := field.Add(square, share), field.Sub(square, share)
	x := field.Add(field.Mul(a.X, b.Y), field.Mul(b.X, a.Y))
	y := field.Add(yy, xx)
	return fraction{api.Point{
		X: field.Mul(field.Mul(common, x), minus),
		Y: field.Mul(field.Mul(common, y), plus),
	}, field.Mul(plus, minus)}
}

// twice is sum(a, a) in fewer steps: on the curve 1 + d x^2 y^2 is y^2 - x^2, and so 1 - d x^2 y^2 is 2 less that.
func twice(a fraction) fraction {
	xx, yy := field.Mul(a.X, a.X), field.Mul(a.Y, a.Y)
	xy, square := field.Mul(a.X, a.Y), field.Mul(a.under, a.under)
	plus := field.Sub(yy, xx)
	minus := field.Sub(field.Add(square, square), plus)
	return fraction{api.Point{
		X: field.Mul(field.Add(xy, xy), minus),
		Y: field.Mul(field.Add(yy, xx), plus),
	}, field.Mul(plus, minus)}
}

// times is k times a, by k's bits from the highest on.
func times(k [32]byte, a fraction) fraction {
	many := nought()
	for bit := 255; bit >= 0; bit-- {
		many = twice(many)
		if k[bit/8]>>(bit%8)&1 == 1 {
			many = sum(many, a)
		}
	}
	return many
}

// withEven is the point of y, which is below p, whose x is the even one of the two; ErrPoint, if no x goes with y.
func withEven(y [32]byte) (api.Point, error) {
	yy := field.Mul(y, y)
	// There is always an inverse: d y^2 is never -1, since -1 is a square and d is none.
	inverse, _ := field.Inv(field.Add(one(), field.Mul(factor(), yy)))
	x, err := field.Root(field.Mul(field.Sub(yy, one()), inverse))
	if err != nil {
		return api.Point{}, api.ErrPoint
	}
	return api.Point{X: x, Y: y}, nil
}

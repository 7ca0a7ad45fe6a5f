package poly

import (
	"dspcompiler/api"
	"dspcompiler/interval"
	"dspcompiler/rational"
)

// Eval returns the value of a polynomial at x.
func Eval(p api.Poly, x api.Rat) api.Rat {
	// The value is p of the constant x, whose only coefficient it is.
	return rational.Trim(coefficient(composition(p, api.Poly{x}), 0))
}

// Enclose returns an interval that contains the values of a polynomial at all
// numbers of an interval: what Horner's rule gives with intervals.
func Enclose(p api.Poly, x api.Interval) api.Interval {
	value := point(rational.Of(0))
	for i := range len(p) {
		value = interval.Add(interval.Mul(value, x), point(p[len(p)-1-i]))
	}
	return value
}

// point returns the interval that contains only c.
func point(c api.Rat) api.Interval {
	return interval.Make(c, c)
}

// Compose returns p of q, or ErrDegree if its degree is greater than
// 4 * MaxDegree.
func Compose(p, q api.Poly) (api.Poly, api.Errno) {
	if Degree(p)*Degree(q) > greatestDegree {
		return nil, api.ErrDegree
	}
	return composition(p, q), api.OK
}

// composition returns p of q.
func composition(p, q api.Poly) api.Poly {
	return cleared(p).of(cleared(q)).poly()
}

package sturm

import (
	"dspcompiler/api"
	"dspcompiler/poly"
	"dspcompiler/rational"
)

// signAt returns the sign of p at x.
func signAt(p api.Poly, x api.Rat) int {
	return rational.Sign(poly.Eval(p, x))
}

// signAfter returns the sign that p has behind x: that of the first derivative
// that is not 0 at x.
func signAfter(p api.Poly, x api.Rat) int {
	for poly.Degree(p) >= 0 {
		if sign := signAt(p, x); sign != 0 {
			return sign
		}
		p = poly.Derivative(p)
	}
	return 0
}

// turns returns how often p changes its sign between the ends of an interval,
// which are different: the number of roots there whose multiplicity is odd.
// From all roots it takes away the turns of the polynomial in which each root is
// there once less.
func turns(p api.Poly, on api.Interval) int {
	if poly.Degree(p) < 1 {
		return 0
	}
	c := chainOf(p)
	a, b := ends(c.evaluate, on)
	count := rootsAfter(a, b)
	if b.sign == 0 {
		count--
	}
	rest, _, _ := poly.DivMod(p, c[0])
	return count - turns(rest, on)
}

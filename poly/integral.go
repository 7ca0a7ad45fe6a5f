package poly

import (
	"dspcompiler/api"
	"dspcompiler/internal/common"
	"dspcompiler/rational"
)

// integral is a polynomial within a call: integers over one denominator, which
// is an integer and not 0. A long calculation with it brings numbers to lowest
// terms only once, at its end, and not at each step.
type integral struct {
	list api.Poly
	den  api.Rat
}

// one returns the number 1.
func one() api.Rat {
	return rational.Of(1)
}

// cleared returns a polynomial as integers over their least common denominator.
// The last integer is not 0.
func cleared(p api.Poly) integral {
	den := common.Denominator(p)
	return integral{scaled(cut(p), den), den}
}

// poly returns the valid polynomial of f, in memory of its own.
func (f integral) poly() api.Poly {
	return divided(cut(f.list), f.den)
}

// product returns the product of f and g.
func (f integral) product(g integral) integral {
	return integral{product(f.list, g.list), rational.Mul(f.den, g.den)}
}

// of returns f of g by Horner's rule. Instead of dividing by the denominator of
// g at each step, it multiplies the coefficients to come by a power of it.
func (f integral) of(g integral) integral {
	var value api.Poly
	power := one()
	for i := range len(f.list) {
		power = rational.Mul(power, g.den)
		next := rational.Mul(f.list[len(f.list)-1-i], power)
		value = sum(product(value, g.list), api.Poly{next})
	}
	return integral{value, rational.Mul(f.den, power)}
}

// reduced returns the first step of the division of p by q without fractions:
// p times the leading coefficient of q, less the multiple of q that takes away
// the leading coefficient. The result is shorter than p by exactly one.
func reduced(p, q api.Poly) api.Poly {
	rest, head := p[:len(p)-1], p[len(p)-1]
	tail, lead := q[:len(q)-1], q[len(q)-1]
	z := scaled(rest, lead)
	shift := len(rest) - len(tail)
	for i, c := range tail {
		z[shift+i] = rational.Sub(z[shift+i], rational.Mul(head, c))
	}
	return z
}

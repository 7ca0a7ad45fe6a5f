package sturm

import (
	"dspcompiler/api"
	"dspcompiler/internal/common"
	"dspcompiler/poly"
	"dspcompiler/rational"
)

// chain is Sturm's chain of a polynomial without multiple roots whose leading
// coefficient is positive: the polynomial itself, its derivative, and then always
// the negated remainder of the two before, each times a positive number that
// makes its coefficients integers.
type chain []api.Poly

// chainOf returns the chain of the polynomial that has the roots of p, which is
// not zero, each once.
func chainOf(p api.Poly) chain {
	c := remainders(p)
	common := c[len(c)-1]
	if poly.Degree(common) == 0 {
		return c
	}
	once, _, _ := poly.DivMod(p, common)
	return remainders(once)
}

// remainders returns the chain of p, which is not zero; it ends with a common
// divisor of p and its derivative. Each remainder has a factor that is known
// ahead, and is divided by it, so that it stays as small as the determinants
// that it consists of (the chain of subresultants).
func remainders(p api.Poly) chain {
	p = primitive(p)
	c := chain{p}
	lead, known := rational.Of(1), rational.Of(1)
	for q := poly.Derivative(p); len(q) > 0; {
		c = append(c, q)
		gap := len(p) - len(q)
		factor := rational.Mul(lead, power(known, gap))
		lead = rational.Abs(q[len(q)-1])
		known = rational.Mul(power(lead, gap), inverse(power(known, gap-1)))
		p, q = q, poly.Scale(remainder(p, q), inverse(rational.Neg(factor)))
	}
	return c
}

// primitive returns the multiple of a polynomial that is not zero whose
// coefficients are integers without a common divisor, the last one positive.
func primitive(p api.Poly) api.Poly {
	p = poly.Monic(p)
	return poly.Scale(p, common.Denominator(p))
}

// remainder returns the remainder of p and q, times the absolute value of the
// leading coefficient of q once for each step of the division, so that there
// are no fractions. The last coefficients may be 0.
func remainder(p, q api.Poly) api.Poly {
	if rational.Sign(q[len(q)-1]) < 0 {
		q = poly.Scale(q, rational.Of(-1))
	}
	for len(p) >= len(q) {
		p = reduced(p, q)
	}
	return p
}

// reduced returns p times the leading coefficient of q, less the multiple of q
// that takes away the leading coefficient; it is shorter than p by one.
func reduced(p, q api.Poly) api.Poly {
	head, lead := p[len(p)-1], q[len(q)-1]
	shift := len(p) - len(q)
	z := make(api.Poly, len(p)-1)
	for i := range z {
		z[i] = rational.Mul(p[i], lead)
		if i >= shift {
			z[i] = rational.Sub(z[i], rational.Mul(head, q[i-shift]))
		}
	}
	return z
}

// numerator returns the numerator of a valid number, in its memory.
func numerator(a api.Rat) api.Rat {
	return api.Rat{Num: a.Num, Den: []uint32{1}}
}

// power returns the n-th power, for n from 0 to MaxPower.
func power(a api.Rat, n int) api.Rat {
	z, _ := rational.Pow(a, n)
	return z
}

// inverse returns 1 / a, for a that is not 0.
func inverse(a api.Rat) api.Rat {
	z, _ := rational.Div(rational.Of(1), a)
	return z
}

package poly

import (
	"dspcompiler/api"
	"dspcompiler/rational"
)

// DivMod returns the quotient and the remainder, or ErrZero if q is zero.
func DivMod(p, q api.Poly) (api.Poly, api.Poly, api.Errno) {
	rest, divisor := cleared(p), cleared(q)
	size := len(divisor.list)
	if size == 0 {
		return nil, nil, api.ErrZero
	}
	lead := divisor.list[size-1]
	quotient := make(api.Poly, max(len(rest.list)-size+1, 0))
	for i := len(quotient) - 1; i >= 0; i-- {
		head := rest.list[i+size-1]
		rest = integral{reduced(rest.list, divisor.list), rational.Mul(rest.den, lead)}
		quotient[i] = ratio(rational.Mul(head, divisor.den), rest.den)
	}
	return quotient, rest.poly(), api.OK
}

// Monic returns a polynomial divided by its leading coefficient.
func Monic(p api.Poly) api.Poly {
	p = cut(p)
	if len(p) == 0 {
		return nil
	}
	return divided(p, p[len(p)-1])
}

// Gcd returns the monic greatest common divisor. This is Euclid's algorithm on
// integers, without fractions: each remainder has a factor that is known ahead,
// and is divided by it, so that it stays as small as the determinants that it
// consists of (the chain of subresultants).
func Gcd(p, q api.Poly) api.Poly {
	p, q = primitive(p), primitive(q)
	if len(p) < len(q) {
		p, q = q, p
	}
	lead, known := one(), one()
	for len(q) > 0 {
		gap := len(p) - len(q)
		rest := divided(remainder(p, q), rational.Mul(lead, raised(known, gap)))
		p, q = q, rest
		lead = p[len(p)-1]
		if gap > 0 {
			known = ratio(raised(lead, gap), raised(known, gap-1))
		}
	}
	return Monic(p)
}

// Squarefree returns the monic polynomial with the roots of p, each once.
func Squarefree(p api.Poly) api.Poly {
	quotient, _, err := DivMod(p, Gcd(p, Derivative(p)))
	if err != api.OK {
		return nil
	}
	return Monic(quotient)
}

// primitive returns the multiple of a polynomial whose coefficients are
// integers without a common divisor.
func primitive(p api.Poly) api.Poly {
	return cleared(Monic(p)).list
}

// remainder returns the remainder of p and q times the leading coefficient of q
// as often as there are steps, without zeros at its end.
func remainder(p, q api.Poly) api.Poly {
	for len(p) >= len(q) {
		p = reduced(p, q)
	}
	return cut(p)
}

// divided returns the coefficients of p divided by a number that is not 0.
func divided(p api.Poly, divisor api.Rat) api.Poly {
	return mapped(p, func(c api.Rat) api.Rat {
		return ratio(c, divisor)
	})
}

// ratio returns a / b, for b that is not 0.
func ratio(a, b api.Rat) api.Rat {
	z, _ := rational.Div(a, b)
	return z
}

// raised returns the n-th power of a number, for n of any size.
func raised(a api.Rat, n int) api.Rat {
	z := one()
	for range n {
		z = rational.Mul(z, a)
	}
	return z
}

package sturm

import (
	"dspcompiler/api"
	"dspcompiler/internal/common"
	"dspcompiler/interval"
	"dspcompiler/rational"
)

// place is a number with what a chain tells of it: the sign that the first
// polynomial has there, and the number of sign variations of all of them.
type place struct {
	at               api.Rat
	sign, variations int
}

// evaluator is the method evaluate of a chain.
type evaluator func(x api.Rat) place

// evaluate returns the place of a valid number.
func (c chain) evaluate(x api.Rat) place {
	scale := scaledPowers(x, len(c[0]))
	z := place{at: x, sign: signOf(c[0], scale)}
	last := z.sign
	for _, p := range c[1:] {
		sign := signOf(p, scale)
		if sign == 0 {
			continue
		}
		if sign != last && last != 0 {
			z.variations++
		}
		last = sign
	}
	return z
}

// scaledPowers returns n powers of x, from 1 on, times the denominator of the
// last one: with integers, a sum needs no common denominator.
func scaledPowers(x api.Rat, n int) []api.Rat {
	z, dens := powers(numerator(x), n), powers(common.Denominator([]api.Rat{x}), n)
	for i := range z {
		z[i] = rational.Mul(z[i], dens[n-1-i])
	}
	return z
}

// powers returns n powers of a number, from 1 on.
func powers(a api.Rat, n int) []api.Rat {
	z := []api.Rat{rational.Of(1)}
	for len(z) < n {
		z = append(z, rational.Mul(z[len(z)-1], a))
	}
	return z
}

// signOf returns the sign of the sum of coefficients times powers.
func signOf(p api.Poly, powers []api.Rat) int {
	sum := rational.Of(0)
	for i, c := range p {
		sum = rational.Add(sum, rational.Mul(c, powers[i]))
	}
	return rational.Sign(sum)
}

// ends returns the places of the ends of an interval.
func ends(evaluate evaluator, on api.Interval) (place, place) {
	on = interval.Trim(on)
	return evaluate(on.Lo), evaluate(on.Hi)
}

// rootsAfter returns the number of roots that are greater than a and at most b:
// each of them takes away one variation. In front of a root, the polynomial and
// its derivative have different signs, but not behind it. Where another one of
// the chain is 0, its neighbours have different signs, before and behind.
func rootsAfter(a, b place) int {
	return a.variations - b.variations
}

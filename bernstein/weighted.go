package bernstein

import (
	"slices"

	"dspcompiler/api"
	"dspcompiler/internal/common"
	"dspcompiler/interval"
	"dspcompiler/poly"
	"dspcompiler/rational"
)

// weighted returns the Bernstein coefficients of p on an interval, c[i] times the
// binomial coefficient C(n, i), as integers over a positive integer. They are the
// coefficients of the sum of d[k] t^k (1 + t)^(n - k), where d[k] are those of p
// as a polynomial in the t that runs from 0 to 1 on the interval.
func weighted(p api.Poly, on api.Interval) (list []api.Rat, den api.Rat) {
	p, on = poly.Trim(p), interval.Trim(on)
	list, den = whole(p)
	// With x in parts of an integer, both ends of the interval are integers.
	unit := common.Denominator([]api.Rat{on.Lo, on.Hi})
	slices.Reverse(list)
	power := stretch(list, unit)
	slices.Reverse(list)
	move(list, rational.Mul(on.Lo, unit))
	stretch(list, rational.Mul(interval.Width(on), unit))
	accumulate(list)
	return list, rational.Mul(den, power)
}

// whole returns numbers as integers over a positive integer.
func whole(numbers []api.Rat) (list []api.Rat, den api.Rat) {
	list, den = make([]api.Rat, len(numbers)), common.Denominator(numbers)
	for i, a := range numbers {
		list[i] = rational.Mul(a, den)
	}
	return list, den
}

// stretch multiplies numbers by the powers of a number, in place, and returns
// the last power. It makes of the coefficients of p of x those of p of by x.
func stretch(list []api.Rat, by api.Rat) api.Rat {
	power := rational.Of(1)
	for k := range list {
		if k > 0 {
			power = rational.Mul(power, by)
		}
		list[k] = rational.Mul(list[k], power)
	}
	return power
}

// move makes of the coefficients of p of x those of p of x + by, in place.
func move(list []api.Rat, by api.Rat) {
	for first := range list {
		for k := len(list) - 2; k >= first; k-- {
			list[k] = rational.Add(list[k], rational.Mul(list[k+1], by))
		}
	}
}

// accumulate makes of numbers d[k] the coefficients of the sum of
// d[k] t^k (1 + t)^(n - k), in place: a move by 1 in the reverse order.
func accumulate(list []api.Rat) {
	for end := len(list); end > 1; end-- {
		for k := 1; k < end; k++ {
			list[k] = rational.Add(list[k], list[k-1])
		}
	}
}

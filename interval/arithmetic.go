package interval

import (
	"dspcompiler/api"
	"dspcompiler/rational"
)

// Add returns the set of all sums of a number of a and a number of b.
func Add(a, b api.Interval) api.Interval {
	a, b = ordered(a), ordered(b)
	return api.Interval{Lo: rational.Add(a.Lo, b.Lo), Hi: rational.Add(a.Hi, b.Hi)}
}

// Sub returns the set of all differences of a number of a and a number of b.
func Sub(a, b api.Interval) api.Interval {
	a, b = ordered(a), ordered(b)
	return api.Interval{Lo: rational.Sub(a.Lo, b.Hi), Hi: rational.Sub(a.Hi, b.Lo)}
}

// Mul returns the set of all products of a number of a and a number of b.
func Mul(a, b api.Interval) api.Interval {
	return extremes([4]api.Rat{
		rational.Mul(a.Lo, b.Lo), rational.Mul(a.Lo, b.Hi),
		rational.Mul(a.Hi, b.Lo), rational.Mul(a.Hi, b.Hi),
	})
}

// extremes returns the interval from the least to the greatest of four numbers,
// in their memory. Of equal ones the first is taken for the least and the last
// for the greatest: so the ends are never one and the same element, and share
// no memory.
func extremes(numbers [4]api.Rat) api.Interval {
	least, greatest := 0, 0
	for i, x := range numbers {
		if rational.Compare(x, numbers[least]) < 0 {
			least = i
		}
		if rational.Compare(x, numbers[greatest]) >= 0 {
			greatest = i
		}
	}
	return api.Interval{Lo: numbers[least], Hi: numbers[greatest]}
}

// Square returns the set of the squares of the numbers of a. It is less than
// the product of a and a if a contains numbers of both signs.
func Square(a api.Interval) api.Interval {
	z := ordered(api.Interval{Lo: rational.Mul(a.Lo, a.Lo), Hi: rational.Mul(a.Hi, a.Hi)})
	if Sign(a) == 0 {
		z.Lo = rational.Of(0)
	}
	return z
}

// Div returns the set of all quotients of a number of a and a number of b, or
// ErrZero if b contains 0.
func Div(a, b api.Interval) (api.Interval, api.Errno) {
	// An interval without a sign contains 0: one of its ends is 0, or 0 lies
	// between them.
	if Sign(b) == 0 {
		return api.Interval{}, api.ErrZero
	}
	return Mul(a, api.Interval{Lo: inverse(b.Lo), Hi: inverse(b.Hi)}), api.OK
}

// inverse returns 1 / x, for a number that is not 0.
func inverse(x api.Rat) api.Rat {
	z, _ := rational.Div(rational.Of(1), x)
	return z
}

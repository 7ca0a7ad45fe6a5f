package bernstein

import (
	"slices"

	"dspcompiler/api"
	"dspcompiler/interval"
	"dspcompiler/rational"
)

// piece is a polynomial on an interval, within a call: its Bernstein coefficients
// there are the integers of a list, of which there is one at least, over a
// positive integer.
type piece struct {
	list []api.Rat
	den  api.Rat
}

// pieceOf returns the piece of p on an interval. That of the zero polynomial has
// the coefficient 0.
func pieceOf(p api.Poly, on api.Interval) piece {
	coefficients := Coefficients(p, on)
	if len(coefficients) == 0 {
		coefficients = []api.Rat{rational.Of(0)}
	}
	list, den := whole(coefficients)
	return piece{list, den}
}

// halves returns the pieces on the two halves of the interval. Their
// coefficients are the ends of the rows of the algorithm of de Casteljau, each
// of which consists of the means of the neighbours in the row before it. Here
// rows of sums stand for them, and the powers of 2 are made equal afterwards.
func (b piece) halves() (left, right piece) {
	row, two := slices.Clone(b.list), rational.Of(2)
	left.list, right.list = make([]api.Rat, len(row)), make([]api.Rat, len(row))
	for last := len(row) - 1; last >= 0; last-- {
		// The left list is made in the reverse order, to be stretched like the right.
		left.list[last], right.list[last] = row[0], row[last]
		for i := range last {
			row[i] = rational.Add(row[i], row[i+1])
		}
	}
	left.den = rational.Mul(b.den, stretch(left.list, two))
	right.den = rational.Mul(b.den, stretch(right.list, two))
	slices.Reverse(left.list)
	return left, right
}

// outer returns the first and the last coefficient only: these are values of the
// polynomial, at the ends of the interval.
func (b piece) outer() piece {
	return piece{[]api.Rat{b.list[0], b.list[len(b.list)-1]}, b.den}
}

// span returns the interval from the least to the greatest coefficient.
func (b piece) span() api.Interval {
	least, greatest := slices.MinFunc(b.list, rational.Compare), slices.MaxFunc(b.list, rational.Compare)
	return interval.Make(ratio(least, b.den), ratio(greatest, b.den))
}

// arePositive reports whether all numbers are positive.
func arePositive(numbers []api.Rat) bool {
	for _, a := range numbers {
		if rational.Sign(a) <= 0 {
			return false
		}
	}
	return true
}

// ratio returns a / b, for b that is not 0.
func ratio(a, b api.Rat) api.Rat {
	z, _ := rational.Div(a, b)
	return z
}

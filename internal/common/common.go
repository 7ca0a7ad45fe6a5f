// Package common finds common denominators, for the layers that calculate with
// integers in place of fractions.
package common

import (
	"dspcompiler/api"
	"dspcompiler/rational"
)

// Denominator returns the least common denominator of numbers in any form, as a
// number, in memory of its own. That of no numbers is 1.
func Denominator(numbers []api.Rat) api.Rat {
	den := rational.Of(1)
	for _, a := range numbers {
		// Of the denominator of a, that of the product is what den lacks.
		lacking := rational.Mul(a, den).Den
		den = rational.Mul(den, api.Rat{Num: api.Int{Mag: lacking}, Den: []uint32{1}})
	}
	return den
}

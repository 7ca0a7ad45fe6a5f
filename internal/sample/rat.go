package sample

import (
	"slices"

	"dspcompiler/api"
)

// Rat returns a rational number whose numerator and denominator have n digits,
// some of which may be leading zeros. Every fourth one is not in lowest terms.
func (g *Generator) Rat(n int) api.Rat {
	a := api.Rat{Num: g.Int(n), Den: g.Digits(n)}
	if g.Below(4) == 0 {
		a.Num.Mag, a.Den = append([]uint32{0}, a.Num.Mag...), append([]uint32{0}, a.Den...)
	}
	return a
}

// Rats are rational numbers in forms of all kinds: with the denominator 0, not
// in lowest terms, with leading zeros, and with zeros of both signs.
func Rats() []api.Rat {
	magnitudes := [][]uint32{nil, {0, 0}, {1}, {2, 0}, {6}, {top}, {0, 1}, {0, 6, 0}}
	denominators := [][]uint32{nil, {0, 0}, {1, 0}, {2}, {3}, {4, 0}, {top}, {0, 2}}
	var z []api.Rat
	for _, mag := range magnitudes {
		for _, den := range denominators {
			z = append(z, ratOf(false, mag, den), ratOf(true, mag, den))
		}
	}
	return z
}

// ratOf returns a rational number with memory of its own.
func ratOf(neg bool, mag, den []uint32) api.Rat {
	return api.Rat{Num: api.Int{Neg: neg, Mag: slices.Clone(mag)}, Den: slices.Clone(den)}
}

// GuardedRat returns a copy of a rational number whose lists are guarded.
func GuardedRat(a api.Rat) api.Rat {
	return api.Rat{Num: api.Int{Neg: a.Num.Neg, Mag: Guarded(a.Num.Mag)}, Den: Guarded(a.Den)}
}

// UntouchedRat reports whether a number that was made by GuardedRat is still
// equal to a, and the memory behind it is as it was.
func UntouchedRat(guarded, a api.Rat) bool {
	return guarded.Num.Neg == a.Num.Neg && Untouched(guarded.Num.Mag, a.Num.Mag) && Untouched(guarded.Den, a.Den)
}

// PaddedRat returns another form of the same number: neither in lowest terms nor
// without leading zeros.
func PaddedRat(a api.Rat) api.Rat {
	longer := func(digits []uint32) []uint32 {
		// A lower zero digit in both multiplies both by the same number.
		return append(append([]uint32{0}, digits...), 0)
	}
	return api.Rat{Num: api.Int{Neg: a.Num.Neg, Mag: longer(a.Num.Mag)}, Den: longer(a.Den)}
}

// SameRat reports whether two rational numbers are equal as plain data.
func SameRat(a, b api.Rat) bool {
	return a.Num.Neg == b.Num.Neg && slices.Equal(a.Num.Mag, b.Num.Mag) && slices.Equal(a.Den, b.Den)
}

// Lists returns the lists of digits of rational numbers, not copies of them.
func Lists(numbers []api.Rat) [][]uint32 {
	var z [][]uint32
	for _, a := range numbers {
		z = append(z, a.Num.Mag, a.Den)
	}
	return z
}

package sample

import (
	"slices"

	"dspcompiler/api"
)

// Poly returns a polynomial of n coefficients that are made of size digits.
// Every third coefficient or so is 0, which may be the last one.
func (g *Generator) Poly(n, size int) api.Poly {
	p := make(api.Poly, n)
	for i := range p {
		if g.Below(3) > 0 {
			p[i] = g.Rat(size)
		}
	}
	return p
}

// Whole returns a polynomial of n coefficients that are integers of one digit,
// from -9 to 9.
func (g *Generator) Whole(n int) api.Poly {
	p := make(api.Poly, n)
	for i := range p {
		p[i] = ratOf(g.Below(2) == 0, []uint32{g.Next() % 10}, []uint32{1})
	}
	return p
}

// Polys are polynomials in forms of all kinds: with no coefficients, with zeros
// of all forms at the end and between others, and with coefficients that are
// not in lowest terms.
func Polys() []api.Poly {
	coefficients := []api.Rat{
		{}, ratOf(true, []uint32{0}, []uint32{1}), ratOf(false, nil, []uint32{6, 0}),
		ratOf(false, []uint32{1}, []uint32{1}), ratOf(false, []uint32{4, 0}, []uint32{4}), ratOf(true, []uint32{1}, []uint32{1}),
		ratOf(true, []uint32{2}, []uint32{6}), ratOf(true, []uint32{0, 1}, []uint32{3}), ratOf(false, []uint32{5}, []uint32{2}),
	}
	places := [][]int{
		{}, {0}, {1}, {2, 1, 0}, {3}, {4}, {5, 0}, {6, 2}, {7}, {8},
		{0, 3}, {1, 5}, {3, 4}, {4, 5, 0, 2}, {6, 8}, {8, 6, 1}, {7, 3},
		{0, 1, 3}, {5, 2, 4}, {3, 8, 6}, {6, 6, 7, 0}, {5, 0, 0, 3}, {0, 0, 8, 2, 7, 1}, {3, 5, 3, 5, 3, 5},
	}
	z := []api.Poly{nil}
	for _, place := range places {
		p := api.Poly{}
		for _, i := range place {
			p = append(p, GuardedRat(coefficients[i]))
		}
		z = append(z, p)
	}
	return z
}

// behind is what lies behind a guarded polynomial.
func behind() api.Rat {
	return ratOf(true, []uint32{77}, []uint32{78})
}

// GuardedPoly returns a copy of a polynomial, with one more coefficient behind
// it, all of whose lists are guarded.
func GuardedPoly(p api.Poly) api.Poly {
	z := make(api.Poly, 0, len(p)+1)
	for _, c := range p {
		z = append(z, GuardedRat(c))
	}
	return append(z, GuardedRat(behind()))[:len(p)]
}

// UntouchedPoly reports whether a polynomial that was made by GuardedPoly is
// still equal to p, and the memory behind it is as it was.
func UntouchedPoly(guarded, p api.Poly) bool {
	return slices.EqualFunc(guarded, p, UntouchedRat) && UntouchedRat(guarded[:len(p)+1][len(p)], behind())
}

// PaddedPoly returns another form of the same polynomial: the coefficients are
// padded, and zeros follow.
func PaddedPoly(p api.Poly) api.Poly {
	var z api.Poly
	for _, c := range p {
		z = append(z, PaddedRat(c))
	}
	return append(z, api.Rat{}, ratOf(true, []uint32{0}, []uint32{7, 0}))
}

// SamePoly reports whether two polynomials are equal as plain data.
func SamePoly(p, q api.Poly) bool {
	return slices.EqualFunc(p, q, SameRat)
}

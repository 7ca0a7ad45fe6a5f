package poly_test

import (
	"testing"

	"dspcompiler/api"
	"dspcompiler/internal/sample"
	"dspcompiler/poly"
	"dspcompiler/rational"
)

// P5.1

func TestValidAndTrim(t *testing.T) {
	for _, p := range polys() {
		if poly.Valid(p) != isValid(p) {
			t.Error("Valid", p)
		}
		if poly.Degree(p) != degree(p) {
			t.Error("Degree", p, poly.Degree(p))
		}
		expect(t, "Trim", poly.Trim(p), p, p)
		if !poly.Valid(poly.Trim(p)) {
			t.Error("the result of Trim is not valid", p)
		}
	}
}

func TestValidEdges(t *testing.T) {
	unreduced := api.Rat{Num: api.Int{Mag: []uint32{2}}, Den: []uint32{4}}
	for _, x := range []struct {
		p    api.Poly
		want bool
	}{
		{nil, true}, {of(), true}, {of(0), false}, {of(1), true}, {of(0, 0, 1), true}, {of(1, 0), false},
		{api.Poly{{}}, false}, {api.Poly{{}, rational.Of(1)}, false}, {api.Poly{unreduced, rational.Of(1)}, false}, {api.Poly{rational.Of(1), unreduced}, false},
		{api.Poly{rational.Of(1), unreduced, rational.Of(1)}, false},
	} {
		if poly.Valid(x.p) != x.want {
			t.Error("Valid", x.p)
		}
	}
}

func TestSame(t *testing.T) {
	pairs(func(p, q api.Poly) {
		if poly.Same(p, q) != sample.SamePoly(canonical(p), canonical(q)) {
			t.Fatal("Same", p, q)
		}
	})
	for _, x := range []struct {
		p, q api.Poly
		want bool
	}{
		{of(1, 2), of(1, 2, 0, 0), true}, {of(1, 2), of(1, 2, 3), false}, {of(1, 2), of(2, 2), false}, {of(1, 2), of(1, 3), false},
		{of(0, 0), nil, true}, {api.Poly{{}}, of(0), true}, {of(0, 1), of(1), false},
	} {
		if poly.Same(x.p, x.q) != x.want || poly.Same(x.q, x.p) != x.want {
			t.Error("Same", x.p, x.q)
		}
	}
}

func TestMonomial(t *testing.T) {
	for _, c := range sample.Rats() {
		for _, n := range []int{0, 1, 7, api.MaxDegree} {
			got, err := poly.Monomial(c, n)
			if err != api.OK {
				t.Fatal("Monomial", c, n, err)
			}
			expect(t, "Monomial", got, append(zeros(n), c), c, n)
		}
		for _, n := range []int{-1, api.MaxDegree + 1, -1 << 40, 1 << 40} {
			got, err := poly.Monomial(c, n)
			refuse(t, "Monomial", err, api.ErrDegree, got)
		}
	}
}

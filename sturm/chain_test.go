package sturm

import (
	"testing"

	"dspcompiler/api"
	"dspcompiler/internal/sample"
	"dspcompiler/poly"
	"dspcompiler/rational"
)

// checkMultiple fails the test if p is not q times a positive number, or has
// coefficients that are not integers.
func checkMultiple(t *testing.T, what string, p, q api.Poly) {
	t.Helper()
	for _, c := range p {
		if rational.Compare(c, numerator(c)) != 0 {
			t.Fatal(what, "has fractions", p)
		}
	}
	if rational.Sign(p[len(p)-1]) != rational.Sign(q[len(q)-1]) || !poly.Same(poly.Monic(p), poly.Monic(q)) {
		t.Fatal(what, "is", p, "and not a positive multiple of", q)
	}
}

// checkChain compares a chain with its definition.
func checkChain(t *testing.T, p api.Poly) {
	t.Helper()
	c := chainOf(p)
	checkMultiple(t, "the first polynomial", c[0], poly.Squarefree(p))
	for i, q := range c[1:] {
		want := poly.Derivative(c[0])
		if i > 0 {
			_, rest, _ := poly.DivMod(c[i-1], c[i])
			want = poly.Scale(rest, rational.Of(-1))
		}
		if len(want) == 0 {
			t.Fatal("the chain is too long", p, c)
		}
		checkMultiple(t, "a remainder", q, want)
	}
	if poly.Degree(c[len(c)-1]) != 0 {
		t.Fatal("the chain is too short", p, c)
	}
}

func TestChain(t *testing.T) {
	g := sample.Generator(1)
	list := sample.Polys()
	for n := range 60 {
		p, q := g.Whole(1+n%9), g.Poly(1+n%7, 1)
		list = append(list, p, q, g.Whole(20), poly.Mul(poly.Mul(p, p), q))
		// Many coefficients are 0 here, and degrees fall by more than one.
		sparse := make(api.Poly, 25)
		for range 4 {
			sparse[g.Below(25)] = rational.Of(g.Below(19) - 9)
		}
		list = append(list, sparse, poly.Mul(sparse, p))
	}
	for _, p := range list {
		if poly.Degree(p) >= 0 {
			checkChain(t, p)
		}
	}
}

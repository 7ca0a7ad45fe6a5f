package poly_test

import (
	"testing"

	"dspcompiler/api"
	"dspcompiler/internal/sample"
	"dspcompiler/poly"
	"dspcompiler/rational"
)

// P5.4

// checkDivMod compares a quotient and a remainder with their definition.
func checkDivMod(t *testing.T, p, q api.Poly) {
	t.Helper()
	quotient, remainder, err := poly.DivMod(p, q)
	if degree(q) < 0 {
		refuse(t, "DivMod by zero", err, api.ErrZero, quotient, remainder)
		return
	}
	if err != api.OK || !isValid(quotient) || !isValid(remainder) {
		t.Fatal("DivMod", p, q, quotient, remainder, err)
	}
	if degree(remainder) >= degree(q) {
		t.Fatal("the degree of a remainder", p, q, remainder)
	}
	expect(t, "quotient times q plus remainder", canonical(p), plus(times(quotient, q), remainder), p, q)
}

func TestDivMod(t *testing.T) {
	pairs(func(p, q api.Poly) {
		checkDivMod(t, p, q)
		checkDivMod(t, times(p, q), q)
	})
	g := sample.Generator(3)
	for range 200 {
		checkDivMod(t, g.Poly(g.Below(9), 1), g.Poly(g.Below(5), 1+g.Below(2)))
		checkDivMod(t, g.Whole(g.Below(15)), g.Whole(g.Below(9)))
	}
}

func TestDivModExamples(t *testing.T) {
	for _, x := range []struct{ p, q, quotient, remainder api.Poly }{
		{of(0, 0, 1), root(1), of(1, 1), of(1)}, {of(0, 0, 1, 0), of(-1, 1, 0), of(1, 1), of(1)}, {root(3), of(0, 0, 5), of(), root(3)},
		{of(2, 4), of(2), of(1, 2), of()}, {of(), root(1), of(), of()}, {of(7), of(7), of(1), of()},
		{of(1, 0, 0, 0, 2), of(0, 0, -2), of(0, 0, -1), of(1)}, {of(-1, 0, 0, 0, 1), of(1, 0, 1), of(-1, 0, 1), of()},
	} {
		quotient, remainder, err := poly.DivMod(x.p, x.q)
		if err != api.OK {
			t.Fatal("DivMod", x, err)
		}
		expect(t, "the quotient", quotient, x.quotient, x)
		expect(t, "the remainder", remainder, x.remainder, x)
	}
}

func TestMonic(t *testing.T) {
	for _, p := range polys() {
		got, want := poly.Monic(p), canonical(p)
		if len(want) > 0 {
			inverse, _ := rational.Div(rational.Of(1), want[len(want)-1])
			want = multiple(want, inverse, 0)
		}
		expect(t, "Monic", got, want, p)
	}
}

// checkGcd compares a greatest common divisor with its definition: it divides
// both polynomials, and the quotients have no common divisor.
func checkGcd(t *testing.T, p, q api.Poly) {
	t.Helper()
	got := poly.Gcd(p, q)
	if degree(p) < 0 && degree(q) < 0 {
		expect(t, "Gcd of zeros", got, of())
		return
	}
	if !isValid(got) || !isMonic(got) {
		t.Fatal("Gcd is not a valid monic polynomial", p, q, got)
	}
	pPart, pRest, _ := poly.DivMod(p, got)
	qPart, qRest, _ := poly.DivMod(q, got)
	if len(pRest) > 0 || len(qRest) > 0 {
		t.Fatal("Gcd does not divide both", p, q, got)
	}
	if !coprime(pPart, qPart) {
		t.Fatal("there is a greater common divisor", p, q, got)
	}
}

func TestGcd(t *testing.T) {
	pairs(func(p, q api.Poly) {
		checkGcd(t, p, q)
		checkGcd(t, times(p, q), times(p, plus(q, of(1))))
	})
	g := sample.Generator(4)
	for range 200 {
		p, q, r := g.Whole(g.Below(9)), g.Whole(g.Below(7)), g.Whole(g.Below(6))
		checkGcd(t, p, q)
		checkGcd(t, times(p, r), times(q, r))
		checkGcd(t, times(p, r, r), times(r, q))
	}
}

func TestGcdExamples(t *testing.T) {
	for _, x := range []struct{ p, q, want api.Poly }{
		{of(-1, 0, 1), of(-2, 2), root(1)}, {of(), of(0, 3), of(0, 1)}, {of(0, 0), of(-4), of(1)}, {of(3), of(5, 1), of(1)},
		// Knuth's example: degrees that fall by more than one.
		{of(-5, 2, 8, -3, -3, 0, 1, 0, 1), of(21, -9, -4, 0, 5, 0, 3), of(1)},
		{of(1, 0, 0, 0, 0, 0, 0, 0, 1), of(1, 0, 0, 0, 0, 1), of(1)},
		{of(-1, 0, 0, 0, 0, 0, 0, 0, 0, 1), of(-1, 0, 0, 0, 0, 0, 1), of(-1, 0, 0, 1)},
	} {
		expect(t, "Gcd", poly.Gcd(x.p, x.q), x.want, x)
		expect(t, "Gcd", poly.Gcd(x.q, x.p), x.want, x)
	}
}

// The gaps between the degrees of remainders are large here, and the remainders
// end with a common divisor of a degree of its own.
func TestGcdWithGaps(t *testing.T) {
	for m := range 13 {
		for n := range 13 {
			for _, factor := range []api.Poly{of(3), root(2), of(2, 0, 0, 5)} {
				p, q := append(zeros(m), of(7)...), append(zeros(n), of(-2)...)
				p, q = times(plus(p, of(1)), factor), times(plus(q, of(2)), factor)
				if degree(p) >= 0 && degree(q) >= 0 {
					checkGcd(t, p, q)
				}
			}
		}
	}
}

func TestSquarefree(t *testing.T) {
	factors := []api.Poly{root(0), root(1), root(-3), of(1, 0, 1), of(2, 1, 1), {rational.Frac(-1, 2), rational.Of(1)}, of(-2, 0, 0, 1)}
	g := sample.Generator(6)
	for range 300 {
		p, want := of(g.Below(9)-10), of(1)
		for _, factor := range factors {
			for i := range g.Below(4) {
				p = times(p, factor)
				if i == 0 {
					want = times(want, factor)
				}
			}
		}
		expect(t, "Squarefree", poly.Squarefree(p), want, p)
		expect(t, "Squarefree", poly.Squarefree(multiple(p, rational.Frac(-3, 7), 0)), want, p)
	}
}

func TestSquarefreeEdges(t *testing.T) {
	for _, x := range []struct{ p, want api.Poly }{
		{nil, of()}, {of(0, 0), of()}, {of(-5), of(1)}, {of(0, 3), of(0, 1)}, {of(0, 0, -1, 1), of(0, -1, 1)}, {append(zeros(20), of(4, 0)...), of(0, 1)},
	} {
		expect(t, "Squarefree", poly.Squarefree(x.p), x.want, x.p)
	}
}

// The sizes that the higher layers work with are done soon.
func TestGreatDegrees(t *testing.T) {
	g := sample.Generator(7)
	p, q, r := g.Whole(api.MaxDegree/2), g.Whole(api.MaxDegree/2+1), append(g.Whole(api.MaxDegree/2), of(1)...)
	expect(t, "Gcd", poly.Gcd(times(p, r), times(q, r)), r)
	expect(t, "Squarefree", poly.Squarefree(times(r, r)), r)
	checkDivMod(t, g.Whole(4*api.MaxDegree+1), g.Whole(api.MaxDegree))
}

package bernstein_test

import (
	"testing"

	"dspcompiler/api"
	"dspcompiler/bernstein"
	"dspcompiler/internal/sample"
	"dspcompiler/interval"
	"dspcompiler/poly"
	"dspcompiler/rational"
)

// P7.1

// checkCoefficients compares the Bernstein coefficients with their definition:
// two polynomials of degree n at most are equal if n + 1 of their values are.
func checkCoefficients(t *testing.T, p api.Poly, on api.Interval) {
	t.Helper()
	c := bernstein.Coefficients(p, on)
	if len(c) != poly.Degree(p)+1 {
		t.Fatal("there are", len(c), "coefficients of", p, on)
	}
	for i := range c {
		if !rational.Valid(c[i]) {
			t.Fatal("a coefficient is not valid", p, on, c)
		}
		part := rational.Frac(2*i-1, 3)
		if got, want := bernsteinSum(c, part), poly.Eval(p, within(on, part)); !sample.SameRat(got, want) {
			t.Fatal("the sum is", got, "and not", want, "of", p, on)
		}
	}
}

func TestCoefficients(t *testing.T) {
	operands(func(p api.Poly, on api.Interval) { checkCoefficients(t, p, on) })
}

func TestCoefficientsExamples(t *testing.T) {
	for _, x := range []struct {
		p    api.Poly
		on   api.Interval
		want []api.Rat
	}{
		{of(0, 0, 1), on(0, 4), of(0, 0, 1)}, {of(0, 0, 1), on(-4, 4), of(1, -1, 1)}, {of(0, 0, 1), on(4, -4), of(1, -1, 1)},
		{of(0, 1), on(-4, 8), of(-1, 2)}, {of(0, -1), on(-4, 8), of(1, -2)}, {of(7), on(-4, 8), of(7)}, {of(7, 0, 0), on(4, 4), of(7)}, {of(1, 1, 0), on(8, 16), of(3, 5)},
		{of(0, 0, 0, 1), on(8, 8), of(8, 8, 8, 8)}, {of(0, 0, 0, 1), api.Interval{}, of(0, 0, 0, 0)}, {of(5, 1, 1), api.Interval{}, of(5, 5, 5)}, {of(0, -3, 0, 4), on(-4, 4), of(-1, 5, -5, 1)},
		{of(1, 0, 1), on(0, 1), []api.Rat{rational.Of(1), rational.Of(1), rational.Frac(17, 16)}},
		{api.Poly{rational.Frac(1, 3), rational.Frac(1, 2)}, on(1, 2), []api.Rat{rational.Frac(11, 24), rational.Frac(7, 12)}},
		{of(0, 1, 1), on(2, -1), []api.Rat{rational.Frac(-3, 16), rational.Of(0), rational.Frac(3, 4)}},
	} {
		if got := bernstein.Coefficients(x.p, x.on); !sameNumbers(got, x.want) {
			t.Error("Coefficients are", got, "and not", x.want, "of", x.p, x.on)
		}
	}
	for _, p := range zeros() {
		if got := bernstein.Coefficients(p, on(-4, 4)); len(got) != 0 {
			t.Error("Coefficients of zero", p, got)
		}
	}
}

// Neither Coefficients nor Range has a limit of the degree.
func TestGreatDegrees(t *testing.T) {
	for _, n := range []int{api.MaxDegree, api.MaxDegree + 1, 4 * api.MaxDegree, 4*api.MaxDegree + 1, 260} {
		p := plus(monomial(3, n), rational.Of(-2))
		c := bernstein.Coefficients(append(p, of(0)...), on(0, 8))
		want := plus(monomial(1, n), rational.Of(-2))
		for i := range n {
			want[i] = rational.Of(-2)
		}
		want[n] = rational.Sub(rational.Mul(rational.Of(3), power2(n)), rational.Of(2))
		if !sameNumbers(c, want) {
			t.Fatal("Coefficients of a great degree", n)
		}
		if got := bernstein.Range(p, on(8, 0)); !sample.SameInterval(got, interval.Make(want[0], want[n])) {
			t.Fatal("Range of a great degree", n, got)
		}
	}
	checkCoefficients(t, chebyshev(30), on(-3, 5))
	checkCoefficients(t, chebyshev(api.MaxDegree+2), on(-4, 4))
}

func TestRange(t *testing.T) {
	operands(func(p api.Poly, on api.Interval) {
		got := bernstein.Range(p, on)
		if !interval.Valid(got) {
			t.Fatal("Range is not valid", p, on, got)
		}
		c := bernstein.Coefficients(p, on)
		if len(c) == 0 {
			c = of(0)
		}
		want := interval.Make(c[0], c[0])
		for _, a := range c {
			want = interval.Hull(want, interval.Make(a, a))
		}
		if !sample.SameInterval(got, want) {
			t.Fatal("Range is", got, "and not", want, "of", p, on)
		}
	})
}

func TestRangeExamples(t *testing.T) {
	for _, x := range []struct {
		p        api.Poly
		on, want api.Interval
	}{
		{of(0, 0, 1), on(-4, 4), on(-4, 4)}, {of(0, 0, 1), on(0, 4), on(0, 4)}, {of(0, 0, -1), on(-4, 4), on(-4, 4)}, {of(-7), on(0, 4), on(-28, -28)}, {of(0, -3, 0, 4), on(4, -4), on(-20, 20)},
		{of(3, 2, 1), on(4, 4), on(24, 24)}, {of(-3, -2, -1), on(4, 4), on(-24, -24)}, {of(-5, 1), on(4, 8), on(-16, -12)},
	} {
		if got := bernstein.Range(x.p, x.on); !sample.SameInterval(got, interval.Trim(x.want)) {
			t.Error("Range is", got, "of", x)
		}
	}
	for _, p := range zeros() {
		if got := bernstein.Range(p, on(4, 8)); !sample.SameInterval(got, on(0, 0)) {
			t.Error("Range of zero", p, got)
		}
	}
}

// The values on an interval lie in the Range, and those at the ends are the
// first and the last coefficient.
func TestCoefficientsAndValues(t *testing.T) {
	operands(func(p api.Poly, on api.Interval) {
		bounds, c := bernstein.Range(p, on), bernstein.Coefficients(p, on)
		for i := range 9 {
			if !interval.Contains(bounds, poly.Eval(p, within(on, rational.Frac(i, 8)))) {
				t.Fatal("Range does not contain a value", p, on, i)
			}
		}
		if len(c) > 0 && (!sample.SameRat(c[0], poly.Eval(p, within(on, rational.Of(0)))) || !sample.SameRat(c[len(c)-1], poly.Eval(p, within(on, rational.Of(1))))) {
			t.Fatal("the coefficients at the ends", p, on, c)
		}
	})
}

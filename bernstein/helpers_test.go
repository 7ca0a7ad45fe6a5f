package bernstein_test

import (
	"slices"
	"testing"

	"dspcompiler/api"
	"dspcompiler/bernstein"
	"dspcompiler/internal/sample"
	"dspcompiler/interval"
	"dspcompiler/poly"
	"dspcompiler/rational"
)

// of returns the polynomial with integers as coefficients, from the power 0 on.
func of(c ...int) api.Poly {
	p := api.Poly{}
	for _, n := range c {
		p = append(p, rational.Of(n))
	}
	return p
}

// on returns the interval from a / 4 to b / 4, with its ends in this order.
func on(a, b int) api.Interval {
	return api.Interval{Lo: rational.Frac(a, 4), Hi: rational.Frac(b, 4)}
}

// monomial returns c times the n-th power, for n of any size.
func monomial(c, n int) api.Poly {
	list := make([]int, n+1)
	list[n] = c
	return of(list...)
}

// plus returns p + c.
func plus(p api.Poly, c api.Rat) api.Poly {
	return poly.Add(p, api.Poly{c})
}

// power2 returns 2^n, also for a negative n.
func power2(n int) api.Rat {
	z, factor := rational.Of(1), rational.Of(2)
	if n < 0 {
		n, factor = -n, rational.Frac(1, 2)
	}
	for range n {
		z = rational.Mul(z, factor)
	}
	return z
}

// well returns (x - 1/3)^2 + c, which is positive if c is, and near 0 at 1/3.
func well(c api.Rat) api.Poly {
	return plus(api.Poly{rational.Frac(1, 9), rational.Frac(-2, 3), rational.Of(1)}, c)
}

// chebyshev returns the Chebyshev polynomial of degree n, which is -1 or 1 at
// n + 1 numbers from -1 to 1, and less than 1 in size between them.
func chebyshev(n int) api.Poly {
	p, q := of(1), of(0, 1)
	for range n {
		p, q = q, poly.Sub(poly.Mul(of(0, 2), q), p)
	}
	return p
}

// polys are polynomials in forms of all kinds and of many degrees.
func polys() []api.Poly {
	list := append(sample.Polys(), of(0, 0, 1), of(1, -6, 9), of(0, -3, 0, 4), well(rational.Frac(1, 50)), chebyshev(5))
	g := sample.Generator(1)
	for n := range 10 {
		list = append(list, g.Poly(n, 1+n%2), g.Whole(n))
	}
	return list
}

// operands calls a function with polynomials and intervals of all kinds.
func operands(f func(p api.Poly, on api.Interval)) {
	g := sample.Generator(2)
	for i, p := range polys() {
		for j, on := range sample.Intervals() {
			if (i+j)%3 == 0 {
				f(p, on)
			}
		}
		f(p, g.Interval(1))
		f(p, g.Interval(2))
	}
}

// binomial returns the number of the subsets of k elements of a set of n.
func binomial(n, k int) api.Rat {
	z := rational.Of(1)
	for i := range k {
		z = rational.Mul(z, rational.Frac(n-i, i+1))
	}
	return z
}

// times returns the product of numbers.
func times(numbers ...api.Rat) api.Rat {
	z := rational.Of(1)
	for _, a := range numbers {
		z = rational.Mul(z, a)
	}
	return z
}

// powers returns the powers of x from 0 to n.
func powers(x api.Rat, n int) []api.Rat {
	z := []api.Rat{rational.Of(1)}
	for range n {
		z = append(z, rational.Mul(z[len(z)-1], x))
	}
	return z
}

// bernsteinSum returns the sum of c[i] C(n, i) t^i (1 - t)^(n - i).
func bernsteinSum(c []api.Rat, t api.Rat) api.Rat {
	n := len(c) - 1
	up, down := powers(t, n), powers(rational.Sub(rational.Of(1), t), n)
	sum := rational.Of(0)
	for i := range c {
		sum = rational.Add(sum, times(c[i], binomial(n, i), up[i], down[n-i]))
	}
	return sum
}

// within returns the number at the part t of the way from the lesser end of an
// interval to the greater one.
func within(on api.Interval, t api.Rat) api.Rat {
	on = interval.Trim(on)
	return rational.Add(on.Lo, rational.Mul(t, rational.Sub(on.Hi, on.Lo)))
}

// halves returns the left and the right half of an interval.
func halves(on api.Interval) (left, right api.Interval) {
	middle := within(on, rational.Frac(1, 2))
	on = interval.Trim(on)
	return interval.Make(on.Lo, middle), interval.Make(middle, on.Hi)
}

// isPositiveOn reports whether there are Bernstein coefficients and all of them
// are positive.
func isPositiveOn(p api.Poly, on api.Interval) bool {
	c := bernstein.Coefficients(p, on)
	return len(c) > 0 && !slices.ContainsFunc(c, func(a api.Rat) bool { return rational.Sign(a) <= 0 })
}

// cells is the definition of the cells of an interval, and of the greatest depth
// of one, where no cell is deeper than limit; ok is false if one would be.
func cells(p api.Poly, on api.Interval, limit int) (list []api.Interval, depth int, ok bool) {
	if isPositiveOn(p, on) {
		return []api.Interval{interval.Trim(on)}, 0, true
	}
	if limit == 0 {
		return nil, 0, false
	}
	left, right := halves(on)
	a, i, ok := cells(p, left, limit-1)
	if !ok {
		return nil, 0, false
	}
	b, j, ok := cells(p, right, limit-1)
	return append(a, b...), 1 + max(i, j), ok
}

// parts returns the 2^depth equal parts of an interval.
func parts(on api.Interval, depth int) []api.Interval {
	if depth == 0 {
		return []api.Interval{interval.Trim(on)}
	}
	left, right := halves(on)
	return append(parts(left, depth-1), parts(right, depth-1)...)
}

// sameNumbers reports whether two lists are equal as plain data.
func sameNumbers(a, b []api.Rat) bool {
	return slices.EqualFunc(a, b, sample.SameRat)
}

// sameSign reports whether two certificates are equal as plain data.
func sameSign(a, b api.Sign) bool {
	return sample.SameInterval(a.On, b.On) && slices.EqualFunc(a.Cells, b.Cells, sample.SameInterval)
}

// mustProve returns the certificate that p is positive.
func mustProve(t *testing.T, p api.Poly, on api.Interval) api.Sign {
	t.Helper()
	s, err := bernstein.Prove(p, on)
	if err != api.OK {
		t.Fatal("Prove", p, on, err)
	}
	return s
}

// mustBound returns the bound.
func mustBound(t *testing.T, p api.Poly, on api.Interval, depth int) api.Interval {
	t.Helper()
	z, err := bernstein.Bound(p, on, depth)
	if err != api.OK || !interval.Valid(z) {
		t.Fatal("Bound", p, on, depth, z, err)
	}
	return z
}

// tooGreat are polynomials of a degree that is too great.
func tooGreat() []api.Poly {
	return []api.Poly{monomial(1, api.MaxDegree+1), append(monomial(-2, api.MaxDegree+1), of(0, 0)...), plus(monomial(1, 500), rational.Of(1))}
}

// zeros are forms of the zero polynomial, also ones that seem to have a degree
// that is too great.
func zeros() []api.Poly {
	return []api.Poly{nil, {}, of(0), {{}}, of(0, 0, 0), make(api.Poly, api.MaxDegree+2), monomial(0, api.MaxDegree+9)}
}

// The helpers are compared with numbers that are known.
func TestHelpers(t *testing.T) {
	if got := bernsteinSum(of(1, -1, 1), rational.Frac(1, 4)); !sample.SameRat(got, rational.Frac(1, 4)) {
		t.Error("the sum", got)
	}
	if !sample.SameRat(binomial(6, 2), rational.Of(15)) || !sample.SameRat(binomial(5, 0), rational.Of(1)) || !sample.SameRat(binomial(5, 5), rational.Of(1)) {
		t.Error("the binomial coefficients")
	}
	if got := within(on(8, -4), rational.Frac(1, 3)); !sample.SameRat(got, rational.Of(0)) {
		t.Error("the number within an interval", got)
	}
	got := parts(on(4, -4), 2)
	want := []api.Interval{on(-4, -2), on(-2, 0), on(0, 2), on(2, 4)}
	if !slices.EqualFunc(got, want, sample.SameInterval) {
		t.Error("the parts", got)
	}
	if !sample.SameRat(power2(-3), rational.Frac(1, 8)) || !sample.SameRat(power2(5), rational.Of(32)) {
		t.Error("the powers of 2")
	}
	if !poly.Same(well(rational.Of(1)), poly.Add(of(1), poly.Mul(api.Poly{rational.Frac(-1, 3), rational.Of(1)}, api.Poly{rational.Frac(-1, 3), rational.Of(1)}))) {
		t.Error("the well")
	}
	if !poly.Same(chebyshev(4), of(1, 0, -8, 0, 8)) {
		t.Error("the Chebyshev polynomial", chebyshev(4))
	}
}

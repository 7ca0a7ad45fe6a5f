package poly_test

import (
	"slices"
	"testing"

	"dspcompiler/api"
	"dspcompiler/internal/sample"
	"dspcompiler/interval"
	"dspcompiler/poly"
	"dspcompiler/rational"
)

// results calls every function that returns polynomials, numbers or intervals,
// and returns these: numbers as lists of one, intervals as lists of two.
func results(p, q api.Poly, x api.Interval) []api.Poly {
	monomial, _ := poly.Monomial(x.Lo, 3)
	enclosure := poly.Enclose(p, x)
	list := []api.Poly{monomial, poly.Trim(p), {poly.Eval(p, x.Lo)}, {enclosure.Lo, enclosure.Hi}, poly.Scale(p, x.Hi)}
	list = append(list, poly.Add(p, q), poly.Sub(p, q), poly.Mul(p, q), poly.Gcd(p, q), poly.Monic(p), poly.Derivative(p), poly.Squarefree(p))
	for n := range 3 {
		power, _ := poly.Pow(p, n)
		list = append(list, power)
	}
	quotient, remainder, _ := poly.DivMod(p, q)
	composed, _ := poly.Compose(p, q)
	return append(list, quotient, remainder, composed)
}

// answers calls every other function.
func answers(p, q api.Poly) [3]int {
	z := [3]int{poly.Degree(p)}
	if poly.Same(p, q) {
		z[1] = 1
	}
	_, _, err := poly.DivMod(p, q)
	z[2] = int(err)
	poly.Valid(p)
	return z
}

// lists returns the lists of digits of polynomials, not copies of them.
func lists(polys []api.Poly) [][]uint32 {
	var z [][]uint32
	for _, p := range polys {
		z = append(z, sample.Lists(p)...)
	}
	return z
}

// operands calls a function with pairs of polynomials and with intervals.
func operands(f func(p, q api.Poly, x api.Interval)) {
	list := sample.Intervals()
	i := 0
	pairs(func(p, q api.Poly) {
		i++
		f(p, q, list[i%len(list)])
	})
}

// R3: neither the arguments nor the memory behind them are modified, and no
// result shares memory with an argument or with another result.
func TestMemory(t *testing.T) {
	operands(func(p, q api.Poly, x api.Interval) {
		pCopy, qCopy, xCopy := sample.GuardedPoly(p), sample.GuardedPoly(q), sample.GuardedInterval(x)
		answers(pCopy, qCopy)
		got := results(pCopy, qCopy, xCopy)
		if !sample.Apart(lists(got)) {
			t.Fatal("two results, or two parts of one, share memory", p, q, x)
		}
		for _, z := range got {
			// This finds out results that share the list, but not the digits.
			clear(z[:cap(z)])
		}
		if !sample.UntouchedPoly(pCopy, p) || !sample.UntouchedPoly(qCopy, q) || !sample.UntouchedInterval(xCopy, x) {
			t.Fatal("an argument was changed", p, q, x)
		}
	})
}

// R3: the same holds for valid polynomials, which are easily returned as they
// are, and for polynomials whose coefficients are one number in one place.
func TestMemoryOfValidOperands(t *testing.T) {
	operands(func(p, q api.Poly, x api.Interval) {
		p, q = poly.Trim(p), poly.Trim(q)
		if !sample.Apart(lists(append(results(p, q, x), p, q))) {
			t.Fatal("a result shares memory", p, q, x)
		}
	})
	c := rational.Frac(-2, 3)
	for _, p := range []api.Poly{{c}, {c, c}, {c, c, c, c}} {
		if !sample.Apart(lists(results(p, p, api.Interval{Lo: c, Hi: c}))) || !sample.SameRat(c, rational.Frac(-2, 3)) {
			t.Fatal("a result shares memory", p)
		}
	}
}

// R3: an argument may be given twice.
func TestSameArgumentTwice(t *testing.T) {
	x := interval.Make(rational.Of(-1), rational.Frac(1, 2))
	for _, p := range polys() {
		alike, apart := results(p, p, x), results(sample.GuardedPoly(p), sample.GuardedPoly(p), x)
		if !slices.EqualFunc(alike, apart, sample.SamePoly) {
			t.Fatal("results of one polynomial and of two equal ones differ", p)
		}
	}
}

// R4: results depend on the polynomials that the arguments denote.
func TestFormsOfArguments(t *testing.T) {
	operands(func(p, q api.Poly, x api.Interval) {
		if poly.Valid(sample.PaddedPoly(p)) {
			t.Fatal("the other form of a polynomial is valid", p)
		}
		plain, other := results(canonical(p), canonical(q), interval.Trim(x)), results(sample.PaddedPoly(p), sample.PaddedPoly(q), sample.PaddedInterval(x))
		for i := range plain {
			// Of the interval's ends themselves, which are exchanged, depend
			// Monomial, Eval and Scale.
			if ofEnds := i == 0 || i == 2 || i == 4; !ofEnds && !sample.SamePoly(plain[i], other[i]) {
				t.Fatal("the form of an argument changes a result", i, p, q, x)
			}
		}
		if answers(canonical(p), canonical(q)) != answers(sample.PaddedPoly(p), sample.PaddedPoly(q)) {
			t.Fatal("the form of an argument changes an answer", p, q)
		}
		expectNumber(t, "Eval", poly.Eval(sample.PaddedPoly(p), sample.PaddedRat(x.Lo)), poly.Eval(canonical(p), rational.Trim(x.Lo)), p, x)
		expect(t, "Scale", poly.Scale(sample.PaddedPoly(p), sample.PaddedRat(x.Lo)), poly.Scale(canonical(p), rational.Trim(x.Lo)), p, x)
	})
}

// All results are valid, whatever the arguments are.
func TestResultsAreValid(t *testing.T) {
	operands(func(p, q api.Poly, x api.Interval) {
		for i, z := range results(p, q, x) {
			// Eval and Enclose return no polynomials, but numbers.
			if isNumbers := i == 2 || i == 3; !isNumbers && !isValid(z) {
				t.Fatal("a result is not valid", i, p, q, x, z)
			}
		}
	})
}

package bernstein_test

import (
	"slices"
	"testing"

	"dspcompiler/api"
	"dspcompiler/bernstein"
	"dspcompiler/internal/sample"
	"dspcompiler/interval"
	"dspcompiler/poly"
	"dspcompiler/rational"
)

// results calls every function, Check with the certificate s, and returns all
// numbers and all errors.
func results(p api.Poly, on api.Interval, s api.Sign) ([]api.Rat, [3]api.Errno) {
	proof, proofErr := bernstein.Prove(p, on)
	list := append(bernstein.Coefficients(p, on), ends(proof)...)
	for _, depth := range []int{0, 3} {
		bound, err := bernstein.Bound(p, on, depth)
		if err != api.OK {
			return list, [3]api.Errno{err}
		}
		list = append(list, bound.Lo, bound.Hi)
	}
	span := bernstein.Range(p, on)
	return append(list, span.Lo, span.Hi), [3]api.Errno{api.OK, proofErr, bernstein.Check(p, s)}
}

// ends returns the ends of the intervals of a certificate, not copies of them.
func ends(s api.Sign) []api.Rat {
	z := []api.Rat{s.On.Lo, s.On.Hi}
	for _, cell := range s.Cells {
		z = append(z, cell.Lo, cell.Hi)
	}
	return z
}

// mapped returns the certificate with what a function makes of its intervals.
func mapped(s api.Sign, f func(api.Interval) api.Interval) api.Sign {
	z := api.Sign{On: f(s.On)}
	for _, cell := range s.Cells {
		z.Cells = append(z.Cells, f(cell))
	}
	return z
}

// certified calls a function with polynomials and intervals of all kinds, and
// with certificates, most of which prove that the polynomial is positive.
func certified(f func(p api.Poly, on api.Interval, s api.Sign)) {
	operands(func(p api.Poly, on api.Interval) {
		f(p, on, api.Sign{On: on, Cells: []api.Interval{on}})
		p = plus(p, rational.Neg(bernstein.Range(p, on).Lo))
		left, right := halves(on)
		f(plus(p, rational.Frac(1, 9)), on, api.Sign{On: on, Cells: []api.Interval{left, right}})
	})
}

// R3: neither the arguments nor the memory behind them are modified, and no
// result shares memory with an argument or with another result.
func TestMemory(t *testing.T) {
	certified(func(p api.Poly, on api.Interval, s api.Sign) {
		pCopy, onCopy, sCopy := sample.GuardedPoly(p), sample.GuardedInterval(on), mapped(s, sample.GuardedInterval)
		got, _ := results(pCopy, onCopy, sCopy)
		if !sample.Apart(sample.Lists(got)) {
			t.Fatal("two results, or two parts of one, share memory", p, on)
		}
		untouched := sample.UntouchedInterval(sCopy.On, s.On) && slices.EqualFunc(sCopy.Cells, s.Cells, sample.UntouchedInterval)
		if !sample.UntouchedPoly(pCopy, p) || !sample.UntouchedInterval(onCopy, on) || !untouched {
			t.Fatal("an argument was changed", p, on, s)
		}
	})
}

// R3: the same holds for arguments in their canonical form, which are easily
// returned as they are, and for points whose ends are one number in one place.
func TestMemoryOfValidOperands(t *testing.T) {
	certified(func(p api.Poly, on api.Interval, s api.Sign) {
		p, on, s = poly.Trim(p), interval.Trim(on), mapped(s, interval.Trim)
		got, _ := results(p, on, s)
		got = append(append(append(got, p...), on.Lo, on.Hi), ends(s)...)
		if !sample.Apart(sample.Lists(got)) {
			t.Fatal("a result shares memory", p, on, s)
		}
	})
	c := rational.Frac(2, 3)
	for _, p := range []api.Poly{{c}, {c, c}, {c, c, c}} {
		point := api.Interval{Lo: c, Hi: c}
		got, errors := results(p, point, sign(point, point))
		if errors != [3]api.Errno{} || !sample.Apart(sample.Lists(got)) || !sample.SameRat(c, rational.Frac(2, 3)) {
			t.Fatal("a result shares memory", p, errors)
		}
	}
}

// R4, R5: results are valid and depend on the values of the arguments alone.
func TestFormsOfArguments(t *testing.T) {
	certified(func(p api.Poly, on api.Interval, s api.Sign) {
		plain, errors := results(poly.Trim(p), interval.Trim(on), mapped(s, interval.Trim))
		other, otherErrors := results(sample.PaddedPoly(p), sample.PaddedInterval(on), mapped(s, sample.PaddedInterval))
		if !sameNumbers(plain, other) || errors != otherErrors {
			t.Fatal("the form of an argument changes a result", p, on, s, errors, otherErrors)
		}
		for _, a := range plain {
			if isZeroValue := len(a.Den) == 0; !rational.Valid(a) && (errors[1] == api.OK || !isZeroValue) {
				t.Fatal("a result is not valid", p, on, a)
			}
		}
	})
}

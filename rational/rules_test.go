package rational_test

import (
	"slices"
	"testing"

	"dspcompiler/api"
	"dspcompiler/internal/sample"
	"dspcompiler/rational"
)

// results calls every function that returns numbers, and returns these.
func results(a, b api.Rat) []api.Rat {
	made, _ := rational.Make(a.Num, b.Num)
	quotient, _ := rational.Div(a, b)
	list := []api.Rat{
		made, quotient, rational.Trim(a), rational.Neg(a), rational.Abs(a), rational.Add(a, b), rational.Sub(a, b), rational.Mul(a, b),
		{Num: rational.Floor(a)},
	}
	for _, f := range []func(api.Rat, int) (api.Rat, api.Errno){rational.Pow, rational.Down, rational.Up, rational.Nearest} {
		for n := range 3 {
			z, _ := f(a, n)
			list = append(list, z)
		}
	}
	return list
}

// operands are numbers in forms of all kinds, and valid ones.
func operands() []api.Rat {
	list := sample.Rats()
	g := sample.Generator(5)
	for n := range 6 {
		list = append(list, g.Rat(n), rational.Trim(g.Rat(n)))
	}
	return list
}

// R3: neither the arguments nor the memory behind them are modified, and no
// result shares memory with an argument or with another result.
func TestMemory(t *testing.T) {
	for _, a := range operands() {
		for _, b := range operands() {
			x, y := sample.GuardedRat(a), sample.GuardedRat(b)
			got := results(x, y)
			rational.Valid(x)
			rational.Sign(x)
			rational.Format(x)
			rational.Compare(x, y)
			if !sample.Apart(sample.Lists(got)) {
				t.Fatal("two results share memory", a, b)
			}
			if !sample.UntouchedRat(x, a) || !sample.UntouchedRat(y, b) {
				t.Fatal("an argument was changed", a, b, x, y)
			}
		}
	}
}

// R3: an argument may be given twice.
func TestSameArgumentTwice(t *testing.T) {
	for _, a := range operands() {
		alike, apart := results(a, a), results(sample.GuardedRat(a), sample.GuardedRat(a))
		if !slices.EqualFunc(alike, apart, sample.SameRat) {
			t.Fatal("results of one number and of two equal ones differ", a)
		}
	}
}

// R4: results depend on the values of the arguments.
func TestFormsOfArguments(t *testing.T) {
	for _, a := range operands() {
		if value(sample.PaddedRat(a)).Cmp(value(a)) != 0 || rational.Valid(sample.PaddedRat(a)) {
			t.Fatal("the other form of a number", a)
		}
		for _, b := range operands() {
			// Make has no rational arguments.
			plain, other := results(rational.Trim(a), rational.Trim(b))[1:], results(sample.PaddedRat(a), sample.PaddedRat(b))[1:]
			if !slices.EqualFunc(plain, other, sample.SameRat) {
				t.Fatal("the form of an argument changes a result", a, b, plain, other)
			}
		}
	}
}

// The consequences of the chapter: the rational numbers are an ordered field.
func TestLaws(t *testing.T) {
	g := sample.Generator(6)
	one := rational.Of(1)
	for range 500 {
		a, b, c := g.Rat(g.Below(6)), g.Rat(g.Below(6)), g.Rat(g.Below(6))
		if !sample.SameRat(rational.Add(a, rational.Add(b, c)), rational.Add(rational.Add(a, b), c)) || !sample.SameRat(rational.Add(a, b), rational.Add(b, a)) {
			t.Fatal("Add", a, b, c)
		}
		if !sample.SameRat(rational.Mul(a, rational.Mul(b, c)), rational.Mul(rational.Mul(a, b), c)) || !sample.SameRat(rational.Mul(a, b), rational.Mul(b, a)) {
			t.Fatal("Mul", a, b, c)
		}
		if !sample.SameRat(rational.Mul(a, rational.Add(b, c)), rational.Add(rational.Mul(a, b), rational.Mul(a, c))) {
			t.Fatal("Mul distributes over Add", a, b, c)
		}
		if !sample.SameRat(rational.Add(a, rational.Neg(a)), rational.Of(0)) || !sample.SameRat(rational.Add(a, api.Rat{}), rational.Trim(a)) || !sample.SameRat(rational.Mul(a, one), rational.Trim(a)) {
			t.Fatal("the negation, 0 and 1", a)
		}
		if inverse, e := rational.Div(one, a); e == api.OK && !sample.SameRat(rational.Mul(a, inverse), one) {
			t.Fatal("the inverse", a, inverse)
		}
		if rational.Compare(a, b) != rational.Compare(rational.Add(a, c), rational.Add(b, c)) || rational.Compare(a, b)*rational.Sign(c) != rational.Compare(rational.Mul(a, c), rational.Mul(b, c)) {
			t.Fatal("the order", a, b, c)
		}
	}
}

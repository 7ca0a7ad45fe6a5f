package integer_test

import (
	"slices"
	"testing"

	"dspcompiler/api"
	"dspcompiler/integer"
	"dspcompiler/internal/sample"
)

// results calls every function that returns integers, and returns these.
func results(a, b api.Int) []api.Int {
	quotient, rest, _ := integer.Div(a, b)
	return []api.Int{
		integer.Trim(a), integer.Neg(a), integer.Abs(a), integer.Add(a, b), integer.Sub(a, b), integer.Mul(a, b),
		quotient, rest, integer.Gcd(a, b),
	}
}

// operands are integers in forms of all kinds.
func operands() []api.Int {
	g := sample.Generator(5)
	return append(sample.Ints(), g.Int(4), g.Int(5), g.Int(9), integer.Of(-1), integer.Of(1))
}

// copyOf returns an integer with memory of its own.
func copyOf(a api.Int) api.Int {
	return api.Int{Neg: a.Neg, Mag: slices.Clone(a.Mag)}
}

// R3: neither the arguments nor the memory behind them are modified, and no
// result shares memory with an argument or with another result.
func TestMemory(t *testing.T) {
	for _, a := range operands() {
		for _, b := range operands() {
			x, y := api.Int{Neg: a.Neg, Mag: sample.Guarded(a.Mag)}, api.Int{Neg: b.Neg, Mag: sample.Guarded(b.Mag)}
			var lists [][]uint32
			for _, z := range results(x, y) {
				lists = append(lists, z.Mag)
			}
			integer.Valid(x)
			integer.Sign(x)
			integer.Small(x)
			integer.Format(x)
			integer.Compare(x, y)
			if !sample.Apart(lists) {
				t.Fatal("two results share memory", a, b)
			}
			if !sample.Untouched(x.Mag, a.Mag) || !sample.Untouched(y.Mag, b.Mag) {
				t.Fatal("an argument was changed", a, b, x, y)
			}
		}
	}
}

// R3: an argument may be given twice.
func TestSameArgumentTwice(t *testing.T) {
	for _, a := range operands() {
		alike, apart := results(a, a), results(copyOf(a), copyOf(a))
		for i := range alike {
			if !same(alike[i], apart[i]) {
				t.Fatal("results of one integer and of two equal ones differ", a, i)
			}
		}
	}
}

// R4: results depend on the values of the arguments.
func TestFormsOfArguments(t *testing.T) {
	for _, a := range operands() {
		for _, b := range operands() {
			plain := results(number(value(a)), number(value(b)))
			padded := results(api.Int{Neg: a.Neg, Mag: append(slices.Clone(a.Mag), 0, 0)}, api.Int{Neg: b.Neg, Mag: append(slices.Clone(b.Mag), 0)})
			for i := range plain {
				if !same(plain[i], padded[i]) {
					t.Fatal("the form of an argument changes a result", a, b, i, plain[i], padded[i])
				}
			}
		}
	}
}

// The consequences of the chapter: the integers are a commutative ring.
func TestLaws(t *testing.T) {
	g := sample.Generator(6)
	for range 1000 {
		a, b, c := g.Int(g.Below(6)), g.Int(g.Below(6)), g.Int(g.Below(6))
		if !same(integer.Add(a, integer.Add(b, c)), integer.Add(integer.Add(a, b), c)) || !same(integer.Add(a, b), integer.Add(b, a)) {
			t.Fatal("Add", a, b, c)
		}
		if !same(integer.Mul(a, integer.Mul(b, c)), integer.Mul(integer.Mul(a, b), c)) || !same(integer.Mul(a, b), integer.Mul(b, a)) {
			t.Fatal("Mul", a, b, c)
		}
		if !same(integer.Mul(a, integer.Add(b, c)), integer.Add(integer.Mul(a, b), integer.Mul(a, c))) {
			t.Fatal("Mul distributes over Add", a, b, c)
		}
		if !same(integer.Add(a, integer.Neg(a)), api.Int{}) || !same(integer.Add(a, api.Int{}), integer.Trim(a)) || !same(integer.Mul(a, integer.Of(1)), integer.Trim(a)) {
			t.Fatal("the negation, 0 and 1", a)
		}
		if integer.Compare(a, b) != integer.Sign(integer.Sub(a, b)) {
			t.Fatal("Compare is the sign of the difference", a, b)
		}
	}
}

package nat_test

import (
	"slices"
	"testing"

	"dspcompiler/api"
	"dspcompiler/internal/sample"
	"dspcompiler/nat"
)

// results calls every function that returns lists, and returns these.
func results(a, b []uint32) [][]uint32 {
	quotient, rest, _ := nat.DivMod(a, b)
	power, _ := nat.Pow(a, 1)
	first, _ := nat.Pow(a, 0)
	root, _ := nat.Root(a, 1)
	square, _ := nat.Root(a, 2)
	return [][]uint32{
		nat.Trim(a), nat.Add(a, b), nat.Sub(a, b), nat.Mul(a, b), quotient, rest, nat.Gcd(a, b),
		nat.Shift(a, 0), nat.Shift(a, 33), nat.Shift(a, -33), power, first, root, square,
	}
}

// R3: neither the arguments nor the memory behind them are modified, and no
// result shares memory with an argument or with another result.
func TestMemory(t *testing.T) {
	g := sample.Generator(8)
	lists := append(sample.Edges(), g.Digits(4), g.Digits(9), g.Digits(60), g.Digits(110))
	for _, a := range lists {
		for _, b := range lists {
			x, y := sample.Guarded(a), sample.Guarded(b)
			got := results(x, y)
			nat.Compare(x, y)
			nat.BitLen(x)
			nat.Normal(x)
			nat.Format(x)
			if !sample.Apart(got) {
				t.Fatal("two results share memory", a, b)
			}
			if !sample.Untouched(x, a) {
				t.Fatal("the first argument was changed", a, b, x)
			}
			if !sample.Untouched(y, b) {
				t.Fatal("the second argument was changed", a, b, y)
			}
		}
	}
}

// R3: an argument may be given twice.
func TestSameArgumentTwice(t *testing.T) {
	g := sample.Generator(9)
	for _, a := range append(sample.Edges(), g.Digits(4), g.Digits(60), g.Digits(110)) {
		same, apart := results(a, a), results(slices.Clone(a), slices.Clone(a))
		for i := range same {
			if !slices.Equal(same[i], apart[i]) {
				t.Fatal("results of one list and of two equal ones differ", a, i)
			}
		}
	}
}

// R4: results depend on the values of the arguments, and are normal.
func TestFormsOfArguments(t *testing.T) {
	g := sample.Generator(10)
	lists := append(sample.Edges(), g.Digits(4), g.Digits(60), g.Digits(110))
	for _, a := range lists {
		for _, b := range lists {
			plain := results(trimmed(a), trimmed(b))
			padded := results(append(slices.Clone(a), 0, 0, 0), append(slices.Clone(b), 0))
			for i := range plain {
				if !isNormal(plain[i]) || !slices.Equal(plain[i], padded[i]) {
					t.Fatal("a leading zero changes a result", a, b, i, plain[i], padded[i])
				}
			}
		}
	}
}

// The consequences of the chapter: the laws of arithmetic.
func TestLaws(t *testing.T) {
	g := sample.Generator(11)
	for range 500 {
		a, b, c := g.Digits(g.Below(60)), g.Digits(g.Below(60)), g.Digits(g.Below(60))
		if !slices.Equal(nat.Add(a, nat.Add(b, c)), nat.Add(nat.Add(a, b), c)) || !slices.Equal(nat.Add(a, b), nat.Add(b, a)) {
			t.Fatal("Add", a, b, c)
		}
		if !slices.Equal(nat.Mul(a, nat.Mul(b, c)), nat.Mul(nat.Mul(a, b), c)) || !slices.Equal(nat.Mul(a, b), nat.Mul(b, a)) {
			t.Fatal("Mul", a, b, c)
		}
		if !slices.Equal(nat.Mul(a, nat.Add(b, c)), nat.Add(nat.Mul(a, b), nat.Mul(a, c))) {
			t.Fatal("Mul distributes over Add", a, b, c)
		}
		if q, r, e := nat.DivMod(a, b); e == api.OK && (nat.Compare(r, b) >= 0 || !slices.Equal(nat.Add(nat.Mul(q, b), r), trimmed(a))) {
			t.Fatal("DivMod", a, b, q, r)
		}
		divisor := nat.Gcd(nat.Mul(a, c), nat.Mul(b, c))
		for _, x := range [][]uint32{divisor, nat.Mul(a, c), nat.Mul(b, c)} {
			if _, r, e := nat.DivMod(x, c); e == api.OK && len(r) != 0 {
				t.Fatal("a common divisor does not divide Gcd", a, b, c)
			}
			if _, r, e := nat.DivMod(x, divisor); e == api.OK && len(r) != 0 {
				t.Fatal("Gcd does not divide", a, b, c)
			}
		}
	}
}

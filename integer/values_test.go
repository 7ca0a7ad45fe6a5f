package integer_test

import (
	"math"
	"math/big"
	"testing"

	"dspcompiler/api"
	"dspcompiler/integer"
	"dspcompiler/internal/sample"
)

// P2.1

func TestValid(t *testing.T) {
	for _, a := range []api.Int{{}, {Mag: []uint32{}}, {Mag: []uint32{1}}, {Neg: true, Mag: []uint32{1}}, {Mag: []uint32{0, 1}}, {Neg: true, Mag: []uint32{0, top}}} {
		if !integer.Valid(a) {
			t.Error("Valid is false for", a)
		}
	}
	for _, a := range []api.Int{{Neg: true}, {Neg: true, Mag: []uint32{}}, {Mag: []uint32{0}}, {Neg: true, Mag: []uint32{0}}, {Mag: []uint32{1, 0}}, {Neg: true, Mag: []uint32{1, 0, 0}}} {
		if integer.Valid(a) {
			t.Error("Valid is true for", a)
		}
	}
	for _, a := range numbers() {
		if integer.Valid(a) != isValid(a) {
			t.Error("Valid", a)
		}
	}
}

func TestTrim(t *testing.T) {
	for _, a := range numbers() {
		expect(t, "Trim", integer.Trim(a), value(a), a)
		if isValid(a) && !same(integer.Trim(a), a) {
			t.Error("Trim changes a valid integer", a)
		}
	}
}

func TestOfAndSmall(t *testing.T) {
	list := []int{0, 1, -1, 7, -7, top, -top, top + 1, -top - 1, top + 2, -top - 2, math.MaxInt, math.MinInt, math.MaxInt - 1, math.MinInt + 1}
	g := sample.Generator(2)
	for range 500 {
		list = append(list, int(uint64(g.Next())<<32|uint64(g.Next()))>>g.Below(64))
	}
	for _, n := range list {
		expect(t, "Of", integer.Of(n), big.NewInt(int64(n)), n)
		if back, ok := integer.Small(integer.Of(n)); back != n || !ok {
			t.Error("Small of Of", n, back, ok)
		}
	}
}

func TestSmall(t *testing.T) {
	list := numbers()
	for _, a := range numbers() {
		// Leading zeros reach beyond the digits of an int.
		list = append(list, api.Int{Neg: a.Neg, Mag: append(append([]uint32{}, a.Mag...), 0, 0, 0)})
	}
	for _, a := range list {
		n, ok := integer.Small(a)
		want := value(a)
		switch {
		case ok != want.IsInt64():
			t.Error("Small finds another range", a, n, ok)
		case ok && int64(n) != want.Int64():
			t.Error("Small", a, n)
		case !ok && n != 0:
			t.Error("Small is false and has a number", a, n)
		}
	}
}

func TestSmallAtTheEnds(t *testing.T) {
	if n, ok := integer.Small(api.Int{Neg: true, Mag: []uint32{0, 1 << 31}}); n != math.MinInt || !ok {
		t.Error("the least int", n, ok)
	}
	for _, a := range []api.Int{{Mag: []uint32{0, 1 << 31}}, {Neg: true, Mag: []uint32{1, 1 << 31}}, {Mag: []uint32{top, top}}, {Neg: true, Mag: []uint32{top, top}}, {Mag: []uint32{0, 0, 1}}} {
		if n, ok := integer.Small(a); n != 0 || ok {
			t.Error("out of range", a, n, ok)
		}
	}
}

// P2.2

func TestSign(t *testing.T) {
	for _, a := range numbers() {
		if integer.Sign(a) != value(a).Sign() {
			t.Error("Sign", a, integer.Sign(a))
		}
	}
}

func TestCompare(t *testing.T) {
	pairs(func(a, b api.Int) {
		if c := integer.Compare(a, b); c != value(a).Cmp(value(b)) {
			t.Fatal("Compare", a, b, c)
		}
	})
}

func TestNegAndAbs(t *testing.T) {
	for _, a := range numbers() {
		expect(t, "Neg", integer.Neg(a), new(big.Int).Neg(value(a)), a)
		expect(t, "Abs", integer.Abs(a), new(big.Int).Abs(value(a)), a)
	}
}

func TestAddSubMul(t *testing.T) {
	pairs(func(a, b api.Int) {
		expect(t, "Add", integer.Add(a, b), new(big.Int).Add(value(a), value(b)), a, b)
		expect(t, "Sub", integer.Sub(a, b), new(big.Int).Sub(value(a), value(b)), a, b)
		expect(t, "Mul", integer.Mul(a, b), new(big.Int).Mul(value(a), value(b)), a, b)
	})
}

func TestGcd(t *testing.T) {
	g := sample.Generator(3)
	pairs(func(a, b api.Int) {
		expect(t, "Gcd", integer.Gcd(a, b), new(big.Int).GCD(nil, nil, value(integer.Abs(a)), value(integer.Abs(b))), a, b)
		common := g.Int(1 + g.Below(3))
		a, b = integer.Mul(a, common), integer.Mul(b, common)
		expect(t, "Gcd", integer.Gcd(a, b), new(big.Int).GCD(nil, nil, value(integer.Abs(a)), value(integer.Abs(b))), a, b)
	})
	for _, a := range numbers() {
		size := new(big.Int).Abs(value(a))
		expect(t, "Gcd of 0", integer.Gcd(api.Int{}, a), size, a)
		expect(t, "Gcd with a negative 0", integer.Gcd(a, api.Int{Neg: true, Mag: []uint32{0}}), size, a)
	}
}

// P2.3

func TestDiv(t *testing.T) {
	pairs(func(a, b api.Int) {
		q, r, e := integer.Div(a, b)
		if value(b).Sign() == 0 {
			if e != api.ErrZero || !same(q, api.Int{}) || !same(r, api.Int{}) {
				t.Fatal("Div by 0", a, b, q, r, e)
			}
			return
		}
		// The division of package big that leaves no negative remainder.
		quotient, rest := new(big.Int).DivMod(value(a), value(b), new(big.Int))
		if e != api.OK {
			t.Fatal("Div fails", a, b, e)
		}
		expect(t, "the quotient", q, quotient, a, b)
		expect(t, "the remainder", r, rest, a, b)
	})
}

func TestDivOfSmallNumbers(t *testing.T) {
	rows := []struct{ a, b, q, r int }{
		{7, 2, 3, 1}, {-7, 2, -4, 1}, {7, -2, -3, 1}, {-7, -2, 4, 1},
		{6, 3, 2, 0}, {-6, 3, -2, 0}, {6, -3, -2, 0}, {-6, -3, 2, 0},
		{1, 5, 0, 1}, {-1, 5, -1, 4}, {1, -5, 0, 1}, {-1, -5, 1, 4}, {0, 5, 0, 0}, {0, -5, 0, 0},
	}
	for _, row := range rows {
		q, r, e := integer.Div(integer.Of(row.a), integer.Of(row.b))
		if e != api.OK || !same(q, integer.Of(row.q)) || !same(r, integer.Of(row.r)) {
			t.Error("Div", row, q, r, e)
		}
	}
}

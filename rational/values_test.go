package rational_test

import (
	"math"
	"math/big"
	"testing"

	"dspcompiler/api"
	"dspcompiler/internal/sample"
	"dspcompiler/rational"
)

// P3.1

func TestValid(t *testing.T) {
	one, six := api.Int{Mag: []uint32{1}}, api.Int{Neg: true, Mag: []uint32{6}}
	for _, a := range []api.Rat{
		{Den: []uint32{1}}, {Num: api.Int{Mag: []uint32{}}, Den: []uint32{1}}, {Num: one, Den: []uint32{1}}, {Num: one, Den: []uint32{2}},
		{Num: one, Den: []uint32{0, 1}}, {Num: six, Den: []uint32{1}}, {Num: six, Den: []uint32{35}},
	} {
		if !rational.Valid(a) {
			t.Error("Valid is false for", a)
		}
	}
	for _, a := range []api.Rat{
		{}, {Num: one}, {Num: six}, {Num: one, Den: []uint32{}}, {Num: one, Den: []uint32{0}}, {Num: one, Den: []uint32{0, 0}}, {Num: one, Den: []uint32{2, 0}},
		{Num: one, Den: []uint32{1, 0}}, {Den: []uint32{2}}, {Den: []uint32{1, 0}}, {Den: []uint32{0}}, {Num: six, Den: []uint32{3}}, {Num: six, Den: []uint32{9}},
		{Num: six, Den: []uint32{6}}, {Num: six, Den: []uint32{0, 1}}, {Num: api.Int{Neg: true}, Den: []uint32{1}},
		{Num: api.Int{Mag: []uint32{0}}, Den: []uint32{1}}, {Num: api.Int{Mag: []uint32{1, 0}}, Den: []uint32{1}},
	} {
		if rational.Valid(a) {
			t.Error("Valid is true for", a)
		}
	}
	for _, a := range numbers() {
		if rational.Valid(a) != isValid(a) {
			t.Error("Valid", a)
		}
	}
}

func TestTrim(t *testing.T) {
	for _, a := range numbers() {
		expect(t, "Trim", rational.Trim(a), value(a), a)
		if isValid(a) && !sample.SameRat(rational.Trim(a), a) {
			t.Error("Trim changes a valid number", a)
		}
	}
}

func TestOfAndFrac(t *testing.T) {
	list := []int{0, 1, -1, 2, -6, 35, 1 << 32, -1 << 32, math.MaxInt, math.MinInt, math.MaxInt - 1, math.MinInt + 1}
	for _, a := range list {
		expect(t, "Of", rational.Of(a), new(big.Rat).SetInt64(int64(a)), a)
		for _, b := range list {
			want := new(big.Rat)
			if b != 0 {
				want.SetFrac64(int64(a), int64(b))
			}
			expect(t, "Frac", rational.Frac(a, b), want, a, b)
		}
	}
}

func TestMake(t *testing.T) {
	g := sample.Generator(3)
	list := sample.Ints()
	for range 50 {
		list = append(list, g.Int(g.Below(9)))
	}
	for _, num := range list {
		for _, den := range list {
			got, e := rational.Make(num, den)
			if whole(den).Sign() == 0 {
				refuse(t, "Make", got, e, api.ErrZero, num, den)
				continue
			}
			if e != api.OK {
				t.Fatal("Make fails", num, den, e)
			}
			expect(t, "Make", got, new(big.Rat).SetFrac(whole(num), whole(den)), num, den)
		}
	}
}

// P3.2

func TestSign(t *testing.T) {
	for _, a := range numbers() {
		if rational.Sign(a) != value(a).Sign() {
			t.Error("Sign", a, rational.Sign(a))
		}
	}
}

func TestNegAndAbs(t *testing.T) {
	for _, a := range numbers() {
		expect(t, "Neg", rational.Neg(a), new(big.Rat).Neg(value(a)), a)
		expect(t, "Abs", rational.Abs(a), new(big.Rat).Abs(value(a)), a)
	}
}

func TestPairs(t *testing.T) {
	pairs(func(a, b api.Rat) {
		x, y := value(a), value(b)
		if c := rational.Compare(a, b); c != x.Cmp(y) {
			t.Fatal("Compare", a, b, c)
		}
		expect(t, "Add", rational.Add(a, b), new(big.Rat).Add(x, y), a, b)
		expect(t, "Sub", rational.Sub(a, b), new(big.Rat).Sub(x, y), a, b)
		expect(t, "Mul", rational.Mul(a, b), new(big.Rat).Mul(x, y), a, b)
		quotient, e := rational.Div(a, b)
		if y.Sign() == 0 {
			refuse(t, "Div", quotient, e, api.ErrZero, a, b)
			return
		}
		if e != api.OK {
			t.Fatal("Div fails", a, b, e)
		}
		expect(t, "Div", quotient, new(big.Rat).Quo(x, y), a, b)
	})
}

func TestPow(t *testing.T) {
	for _, a := range numbers() {
		want := big.NewRat(1, 1)
		for n := range 8 {
			got, e := rational.Pow(a, n)
			if e != api.OK {
				t.Fatal("Pow fails", a, n, e)
			}
			expect(t, "Pow", got, want, a, n)
			want.Mul(want, value(a))
		}
		for _, n := range []int{-1, api.MaxPower + 1, math.MinInt, math.MaxInt} {
			got, e := rational.Pow(a, n)
			refuse(t, "Pow", got, e, api.ErrArg, a, n)
		}
	}
}

func TestGreatestPower(t *testing.T) {
	got, e := rational.Pow(rational.Frac(-2, 3), api.MaxPower)
	if e != api.OK {
		t.Fatal("Pow fails", e)
	}
	power := func(base int64) *big.Int { return new(big.Int).Exp(big.NewInt(base), big.NewInt(api.MaxPower), nil) }
	expect(t, "Pow", got, new(big.Rat).SetFrac(power(2), power(3)))
}

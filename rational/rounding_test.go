package rational_test

import (
	"math"
	"math/big"
	"testing"

	"dspcompiler/api"
	"dspcompiler/integer"
	"dspcompiler/internal/sample"
	"dspcompiler/rational"
)

// P3.3

// multiple reports whether x is a multiple of 2^(-bits).
func multiple(x *big.Rat, bits int) bool {
	return new(big.Rat).Mul(x, power(bits)).IsInt()
}

// power returns 2^n.
func power(n int) *big.Rat {
	return new(big.Rat).SetInt(new(big.Int).Lsh(big.NewInt(1), uint(n)))
}

// checkRounding compares the three roundings of a with their definitions.
func checkRounding(t *testing.T, a api.Rat, bits int) {
	t.Helper()
	x, step := value(a), new(big.Rat).Inv(power(bits))
	for i, round := range []func(api.Rat, int) (api.Rat, api.Errno){rational.Down, rational.Up, rational.Nearest} {
		got, e := round(a, bits)
		z := value(got)
		if e != api.OK || !isValid(got) || !multiple(z, bits) {
			t.Fatal("a rounding is not a valid multiple", i, a, bits, got, e)
		}
		gap := new(big.Rat).Sub(z, x)
		double := new(big.Rat).Add(gap, gap)
		good := []bool{
			gap.Sign() <= 0 && new(big.Rat).Add(gap, step).Sign() > 0,
			gap.Sign() >= 0 && gap.Cmp(step) < 0,
			double.Cmp(step) <= 0 && new(big.Rat).Add(double, step).Sign() > 0,
		}
		if !good[i] {
			t.Fatal("a rounding is wrong", i, a, bits, got)
		}
	}
}

func TestRounding(t *testing.T) {
	for _, a := range numbers() {
		for _, bits := range []int{0, 1, 2, 31, 32, 33, 100, api.MaxBits} {
			checkRounding(t, a, bits)
		}
	}
}

// Numbers at the multiples, in the middle between two of them, and beside both.
func TestRoundingNearMultiples(t *testing.T) {
	for _, bits := range []int{0, 1, 5, 64, api.MaxBits - 1, api.MaxBits} {
		step, e := rational.Pow(rational.Frac(1, 2), min(bits, api.MaxPower))
		for left := bits - api.MaxPower; left > 0 && e == api.OK; left-- {
			step = rational.Mul(step, rational.Frac(1, 2))
		}
		if e != api.OK || value(step).Cmp(new(big.Rat).Inv(power(bits))) != 0 {
			t.Fatal("the step", step, e)
		}
		tiny := rational.Mul(step, rational.Frac(1, 1000001))
		for half := -7; half < 8; half++ {
			at := rational.Mul(step, rational.Frac(half, 2))
			checkRounding(t, at, bits)
			checkRounding(t, rational.Add(at, tiny), bits)
			checkRounding(t, rational.Sub(at, tiny), bits)
		}
	}
}

func TestRoundingOfSmallNumbers(t *testing.T) {
	rows := []struct {
		num, den, bits          int
		down, up, nearest, unit int
	}{
		{1, 3, 2, 1, 2, 1, 4}, {-1, 3, 2, -2, -1, -1, 4}, {3, 8, 2, 1, 2, 2, 4}, {-3, 8, 2, -2, -1, -1, 4},
		{1, 2, 0, 0, 1, 1, 1}, {-1, 2, 0, -1, 0, 0, 1}, {5, 1, 3, 5, 5, 5, 1}, {0, 1, 7, 0, 0, 0, 1}, {-5, 4, 2, -5, -5, -5, 4},
	}
	for _, row := range rows {
		a := rational.Frac(row.num, row.den)
		down, e := rational.Down(a, row.bits)
		up, f := rational.Up(a, row.bits)
		nearest, g := rational.Nearest(a, row.bits)
		if e != api.OK || f != api.OK || g != api.OK || !sample.SameRat(down, rational.Frac(row.down, row.unit)) ||
			!sample.SameRat(up, rational.Frac(row.up, row.unit)) || !sample.SameRat(nearest, rational.Frac(row.nearest, row.unit)) {
			t.Error("a rounding is wrong", row, down, up, nearest, e, f, g)
		}
	}
}

func TestRoundingToWrongBits(t *testing.T) {
	for _, a := range []api.Rat{{}, rational.Of(0), rational.Frac(1, 3), rational.Of(-7)} {
		for _, bits := range []int{-1, api.MaxBits + 1, math.MinInt, math.MaxInt} {
			down, e := rational.Down(a, bits)
			refuse(t, "Down", down, e, api.ErrArg, a, bits)
			up, e := rational.Up(a, bits)
			refuse(t, "Up", up, e, api.ErrArg, a, bits)
			nearest, e := rational.Nearest(a, bits)
			refuse(t, "Nearest", nearest, e, api.ErrArg, a, bits)
		}
	}
}

func TestFloor(t *testing.T) {
	list := numbers()
	for k := -9; k < 10; k++ {
		list = append(list, rational.Frac(k, 1), rational.Frac(k, 2), rational.Frac(k, 3))
	}
	for _, a := range list {
		got, x := rational.Floor(a), value(a)
		// The division of package big that leaves no negative remainder.
		want := new(big.Int).Div(x.Num(), x.Denom())
		if !integer.Valid(got) || whole(got).Cmp(want) != 0 {
			t.Fatal("Floor", a, got, want)
		}
	}
}

// Floor is Down without bits.
func TestFloorIsDown(t *testing.T) {
	for _, a := range numbers() {
		floor, _ := rational.Make(rational.Floor(a), integer.Of(1))
		if down, e := rational.Down(a, 0); e != api.OK || !sample.SameRat(down, floor) {
			t.Error("Floor and Down", a, floor, down, e)
		}
	}
}

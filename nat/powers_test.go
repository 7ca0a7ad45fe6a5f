package nat_test

import (
	"math"
	"math/big"
	"testing"

	"dspcompiler/api"
	"dspcompiler/internal/sample"
	"dspcompiler/nat"
)

// P1.4

func TestPow(t *testing.T) {
	g := sample.Generator(5)
	for _, a := range append(sample.Edges(), g.Digits(7), g.Digits(30)) {
		for n := range api.MaxPower + 1 {
			z, e := nat.Pow(a, n)
			if e != api.OK {
				t.Fatal("Pow", a, n, e)
			}
			expect(t, "Pow", z, new(big.Int).Exp(value(a), big.NewInt(int64(n)), nil), a, n)
		}
	}
}

func TestPowersOfZero(t *testing.T) {
	one, e := nat.Pow([]uint32{0}, 0)
	if e != api.OK || len(one) != 1 || one[0] != 1 {
		t.Error("0 to the power of 0", one, e)
	}
	if zero, e := nat.Pow(nil, 1); e != api.OK || len(zero) != 0 {
		t.Error("0 to the power of 1", zero, e)
	}
}

func TestPowArguments(t *testing.T) {
	for _, n := range []int{-1, api.MaxPower + 1, math.MinInt, math.MaxInt} {
		for _, a := range [][]uint32{nil, {1}, {5, 6}} {
			if z, e := nat.Pow(a, n); e != api.ErrArg || len(z) != 0 {
				t.Error("Pow", a, n, z, e)
			}
		}
	}
}

// expectRoot fails the test if Root does not return the greatest number whose
// n-th power is at most a.
func expectRoot(t *testing.T, a []uint32, n int) {
	t.Helper()
	z, e := nat.Root(a, n)
	if e != api.OK || !isNormal(z) {
		t.Fatal("Root", a, n, z, e)
	}
	exponent, next := big.NewInt(int64(n)), new(big.Int).Add(value(z), big.NewInt(1))
	if new(big.Int).Exp(value(z), exponent, nil).Cmp(value(a)) > 0 {
		t.Fatal("Root is too great", a, n, z)
	}
	if next.Exp(next, exponent, nil).Cmp(value(a)) <= 0 {
		t.Fatal("Root is too small", a, n, z)
	}
}

func TestRoot(t *testing.T) {
	g := sample.Generator(6)
	for _, a := range append(sample.Edges(), g.Digits(7), g.Digits(40), g.Digits(150), []uint32{8, 0}) {
		for n := 1; n <= api.MaxPower; n++ {
			expectRoot(t, a, n)
		}
	}
	for i := range uint32(600) {
		for _, n := range []int{1, 2, 3, 4, 5, 7, 9, 10} {
			expectRoot(t, []uint32{i}, n)
		}
	}
}

func TestRootExample(t *testing.T) {
	if z, e := nat.Root([]uint32{8}, 2); e != api.OK || len(z) != 1 || z[0] != 2 {
		t.Error("Root of 8", z, e)
	}
}

// At a power the root jumps: its neighbours are where it is wrong by one.
func TestRootNearPowers(t *testing.T) {
	g := sample.Generator(7)
	for n := 1; n <= api.MaxPower; n++ {
		for size := range 6 {
			power, _ := nat.Pow(g.Digits(size), n)
			expectRoot(t, power, n)
			expectRoot(t, nat.Add(power, []uint32{1}), n)
			expectRoot(t, nat.Sub(power, []uint32{1}), n)
		}
	}
}

// The root of this number has more than MaxShift bits.
func TestRootOfLongNumber(t *testing.T) {
	a := all(top, 2*api.MaxShift/32+400)
	expectRoot(t, a, 1)
	expectRoot(t, a, 2)
}

func TestRootArguments(t *testing.T) {
	for _, n := range []int{0, -1, api.MaxPower + 1, math.MinInt, math.MaxInt} {
		for _, a := range [][]uint32{nil, {1}, {5, 6}} {
			if z, e := nat.Root(a, n); e != api.ErrArg || len(z) != 0 {
				t.Error("Root", a, n, z, e)
			}
		}
	}
}

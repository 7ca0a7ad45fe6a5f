package integer_test

import (
	"math/big"
	"slices"
	"testing"

	"dspcompiler/api"
	"dspcompiler/internal/sample"
)

// top is the greatest digit.
const top = 1<<32 - 1

// value returns the value of an integer by its definition.
func value(a api.Int) *big.Int {
	z, _ := new(big.Int).SetString(sample.Hex(a.Mag), 16)
	if a.Neg {
		z.Neg(z)
	}
	return z
}

// number returns the valid integer of a big one.
func number(x *big.Int) api.Int {
	z := api.Int{Neg: x.Sign() < 0}
	for rest := new(big.Int).Abs(x); rest.Sign() != 0; rest.Rsh(rest, 32) {
		z.Mag = append(z.Mag, uint32(new(big.Int).And(rest, big.NewInt(top)).Uint64()))
	}
	return z
}

// isValid is the definition of a valid integer.
func isValid(a api.Int) bool {
	if len(a.Mag) == 0 {
		return !a.Neg
	}
	return a.Mag[len(a.Mag)-1] != 0
}

// same reports whether two integers are equal as plain data.
func same(a, b api.Int) bool {
	return a.Neg == b.Neg && slices.Equal(a.Mag, b.Mag)
}

// expect fails the test if a result is not valid or not the number wanted.
func expect(t *testing.T, call string, got api.Int, want *big.Int, arguments ...any) {
	t.Helper()
	if !isValid(got) {
		t.Fatalf("%s is not valid: %v, for %v", call, got, arguments)
	}
	if value(got).Cmp(want) != 0 {
		t.Fatalf("%s is %v and not %v, for %v", call, got, want, arguments)
	}
}

// numbers are the edges, and integers on both sides of the ends of int and of
// those numbers at which a digit is added.
func numbers() []api.Int {
	list := sample.Ints()
	for _, bits := range []uint{31, 32, 62, 63, 64, 65, 95, 96} {
		for _, beside := range []int64{-2, -1, 0, 1, 2} {
			x := new(big.Int).Lsh(big.NewInt(1), bits)
			x.Add(x, big.NewInt(beside))
			list = append(list, number(x), number(x.Neg(x)))
		}
	}
	return list
}

// pairs calls a function with all pairs of numbers, with neighbours of equal
// size, and with integers of many sizes.
func pairs(f func(a, b api.Int)) {
	for _, a := range numbers() {
		for _, b := range numbers() {
			f(a, b)
		}
	}
	g := sample.Generator(1)
	for range 3000 {
		a, b := g.Int(g.Below(9)), g.Int(g.Below(9))
		f(a, b)
		beside := new(big.Int).Add(value(a), big.NewInt(int64(g.Below(3)-1)))
		f(a, number(beside))
		f(a, number(beside.Neg(beside)))
	}
}

func TestHelpers(t *testing.T) {
	a := api.Int{Neg: true, Mag: []uint32{5, 1, 0}}
	if value(a).Cmp(big.NewInt(-1<<32-5)) != 0 || !same(number(value(a)), api.Int{Neg: true, Mag: []uint32{5, 1}}) {
		t.Error("the helpers of the tests disagree with the definition of a value")
	}
}

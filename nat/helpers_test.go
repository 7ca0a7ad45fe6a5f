package nat_test

import (
	"math/big"
	"slices"
	"testing"

	"dspcompiler/internal/sample"
	"dspcompiler/nat"
)

// top is the greatest digit.
const top = 1<<32 - 1

// value returns the value of a list.
func value(a []uint32) *big.Int {
	z, _ := new(big.Int).SetString(sample.Hex(a), 16)
	return z
}

// list returns the list of a number in decimal digits.
func list(t *testing.T, text string) []uint32 {
	t.Helper()
	x, ok := new(big.Int).SetString(text, 10)
	if !ok {
		t.Fatal("not a number:", text)
	}
	var a []uint32
	for ; x.Sign() != 0; x.Rsh(x, 32) {
		a = append(a, uint32(new(big.Int).And(x, big.NewInt(top)).Uint64()))
	}
	return a
}

// isNormal is the definition of a normal list.
func isNormal(a []uint32) bool {
	return len(a) == 0 || a[len(a)-1] != 0
}

// expect fails the test if a result is not normal or not the number wanted.
func expect(t *testing.T, call string, got []uint32, want *big.Int, arguments ...any) {
	t.Helper()
	if !isNormal(got) {
		t.Fatalf("%s is not normal: %v, for %v", call, got, arguments)
	}
	if value(got).Cmp(want) != 0 {
		t.Fatalf("%s is %v and not %v, for %v", call, got, want, arguments)
	}
}

// pairs calls a function with all pairs of edges and with pairs of lists of
// many sizes, from empty ones to those whose products are formed from halves.
func pairs(f func(a, b []uint32)) {
	for _, a := range sample.Edges() {
		for _, b := range sample.Edges() {
			f(a, b)
		}
	}
	g := sample.Generator(1)
	for range 3000 {
		f(g.Digits(g.Below(12)), g.Digits(g.Below(12)))
	}
	for _, n := range []int{40, 47, 48, 49, 95, 96, 97, 150, 301} {
		for _, m := range []int{1, 3, 47, 48, 49, 96, 150, 301} {
			f(g.Digits(n), g.Digits(m))
			f(all(top, n), all(top, m))
			f(append(make([]uint32, n-1), 1), append(make([]uint32, m-1), 1))
		}
	}
}

// all returns a list of n equal digits.
func all(digit uint32, n int) []uint32 {
	return slices.Repeat([]uint32{digit}, n)
}

// trimmed is what equal lists are compared by.
func trimmed(a []uint32) []uint32 {
	for !isNormal(a) {
		a = a[:len(a)-1]
	}
	return a
}

func TestValueOfHelper(t *testing.T) {
	if value([]uint32{5, 1, 0}).Cmp(big.NewInt(1<<32+5)) != 0 || !slices.Equal(list(t, "4294967301"), []uint32{5, 1}) {
		t.Error("the helpers of the tests disagree with the definition of a value")
	}
	if !nat.Normal(list(t, "0")) {
		t.Error("the list of 0 is not normal")
	}
}

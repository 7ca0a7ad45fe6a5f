package rational_test

import (
	"math/big"
	"testing"

	"dspcompiler/api"
	"dspcompiler/internal/sample"
	"dspcompiler/rational"
)

// whole returns the value of an integer by its definition.
func whole(a api.Int) *big.Int {
	z, _ := new(big.Int).SetString(sample.Hex(a.Mag), 16)
	if a.Neg {
		z.Neg(z)
	}
	return z
}

// value returns the value of a rational number by its definition.
func value(a api.Rat) *big.Rat {
	den := whole(api.Int{Mag: a.Den})
	if den.Sign() == 0 {
		return new(big.Rat)
	}
	return new(big.Rat).SetFrac(whole(a.Num), den)
}

// isValid is the definition of a valid rational number.
func isValid(a api.Rat) bool {
	num, den := len(a.Num.Mag), len(a.Den)
	switch {
	case den == 0 || a.Den[den-1] == 0:
		return false
	case num == 0:
		return !a.Num.Neg && den == 1 && a.Den[0] == 1
	case a.Num.Mag[num-1] == 0:
		return false
	}
	size := new(big.Int).Abs(whole(a.Num))
	return size.GCD(nil, nil, size, whole(api.Int{Mag: a.Den})).Cmp(big.NewInt(1)) == 0
}

// expect fails the test if a result is not valid or not the number wanted.
func expect(t *testing.T, call string, got api.Rat, want *big.Rat, arguments ...any) {
	t.Helper()
	if !isValid(got) {
		t.Fatalf("%s is not valid: %v, for %v", call, got, arguments)
	}
	if value(got).Cmp(want) != 0 {
		t.Fatalf("%s is %v and not %v, for %v", call, got, want, arguments)
	}
}

// refuse fails the test if a call does not fail with the error wanted and a
// zero value.
func refuse(t *testing.T, call string, got api.Rat, err, want api.Errno, arguments ...any) {
	t.Helper()
	if err != want || !sample.SameRat(got, api.Rat{}) {
		t.Fatalf("%s is %v with error %d and not error %d, for %v", call, got, err, want, arguments)
	}
}

// numbers are numbers in forms of all kinds and of many sizes.
func numbers() []api.Rat {
	list := sample.Rats()
	g := sample.Generator(1)
	for n := range 12 {
		list = append(list, g.Rat(n), api.Rat{Num: g.Int(n), Den: g.Digits(1)}, api.Rat{Num: g.Int(1), Den: g.Digits(n)})
	}
	return list
}

// pairs calls a function with pairs of all numbers, with numbers that differ
// by little, and with numbers whose denominators have much in common.
func pairs(f func(a, b api.Rat)) {
	for _, a := range numbers() {
		for _, b := range numbers() {
			f(a, b)
		}
	}
	g := sample.Generator(2)
	for range 500 {
		a, b := g.Rat(1+g.Below(9)), g.Rat(1+g.Below(9))
		f(a, rational.Add(a, api.Rat{Num: rational.Of(g.Below(3) - 1).Num, Den: b.Den}))
		f(rational.Mul(a, b), api.Rat{Num: b.Num, Den: a.Den})
		f(a, api.Rat{Num: b.Num, Den: a.Den})
	}
}

func TestHelpers(t *testing.T) {
	a := api.Rat{Num: api.Int{Neg: true, Mag: []uint32{0, 2, 0}}, Den: []uint32{0, 4}}
	if value(a).Cmp(big.NewRat(-1, 2)) != 0 || value(api.Rat{Num: a.Num}).Sign() != 0 {
		t.Error("the helpers of the tests disagree with the definition of a value")
	}
}

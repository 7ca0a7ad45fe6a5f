package sample

import (
	"math/big"
	"testing"

	"dspcompiler/api"
)

func TestApart(t *testing.T) {
	a := []uint32{1, 2, 3}
	if Apart([][]uint32{a[:1:1], nil, a[:2]}) {
		t.Error("lists that begin alike are not found out")
	}
	a = []uint32{1, 2, 3}
	if Apart([][]uint32{a[:1], {7}, a[1:2]}) {
		t.Error("a list behind another one is not found out")
	}
	if !Apart([][]uint32{{1}, nil, {}, {1}}) {
		t.Error("lists of their own are found to share memory")
	}
}

func TestUntouched(t *testing.T) {
	a := []uint32{1, 2}
	guarded := Guarded(a)
	if !Untouched(guarded, a) {
		t.Error("a copy is found to be touched")
	}
	_ = append(guarded, 5)
	if Untouched(guarded, a) {
		t.Error("a change behind a list is not found out")
	}
	guarded = Guarded(a)
	guarded[1] = 5
	if Untouched(guarded, a) {
		t.Error("a change of a list is not found out")
	}
}

func TestUntouchedRat(t *testing.T) {
	a := api.Rat{Num: api.Int{Mag: []uint32{1}}, Den: []uint32{2}}
	if !UntouchedRat(GuardedRat(a), a) {
		t.Error("a copy is found to be touched")
	}
	for i := range 2 {
		guarded := GuardedRat(a)
		Spoil(Lists([]api.Rat{guarded})[i])
		if UntouchedRat(guarded, a) {
			t.Error("a change is not found out", i)
		}
	}
}

func TestUntouchedInterval(t *testing.T) {
	a := Intervals()[20]
	if !UntouchedInterval(GuardedInterval(a), a) || !SameInterval(GuardedInterval(a), a) {
		t.Error("a copy is found to be touched")
	}
	for i := range 4 {
		guarded := GuardedInterval(a)
		Spoil(Lists([]api.Rat{guarded.Lo, guarded.Hi})[i])
		if UntouchedInterval(guarded, a) || SameInterval(guarded, a) {
			t.Error("a change is not found out", i)
		}
	}
}

func TestUntouchedPoly(t *testing.T) {
	p := Polys()[len(Polys())-1]
	if !UntouchedPoly(GuardedPoly(p), p) || !SamePoly(GuardedPoly(p), p) || !UntouchedPoly(GuardedPoly(nil), nil) {
		t.Error("a copy is found to be touched")
	}
	for i := range 2 * len(p) {
		guarded := GuardedPoly(p)
		Spoil(Lists(guarded)[i])
		if UntouchedPoly(guarded, p) || SamePoly(guarded, p) {
			t.Error("a change is not found out", i)
		}
	}
	guarded := GuardedPoly(p)
	_ = append(guarded, api.Rat{})
	if UntouchedPoly(guarded, p) {
		t.Error("a change behind a polynomial is not found out")
	}
	if SamePoly(p, p[1:]) {
		t.Error("lists of two lengths are found to be the same")
	}
}

func TestPadded(t *testing.T) {
	for _, a := range Intervals() {
		padded := PaddedInterval(a)
		if !equalRat(padded.Lo, a.Hi) || !equalRat(padded.Hi, a.Lo) || SameInterval(padded, a) {
			t.Error("another form of an interval", a, padded)
		}
	}
	for _, p := range Polys() {
		padded := PaddedPoly(p)
		if len(padded) <= len(p) {
			t.Fatal("another form of a polynomial", p, padded)
		}
		for i, c := range padded {
			if i < len(p) && (!equalRat(c, p[i]) || SameRat(c, p[i])) || i >= len(p) && !equalRat(c, api.Rat{}) {
				t.Error("another form of a coefficient", p, i, c)
			}
		}
	}
}

// equalRat reports whether two rational numbers have the same value.
func equalRat(a, b api.Rat) bool {
	x, y := fraction(a), fraction(b)
	return x.Cmp(y) == 0
}

// fraction returns the value of a rational number, by its definition.
func fraction(a api.Rat) *big.Rat {
	num, _ := new(big.Int).SetString(Hex(a.Num.Mag), 16)
	den, _ := new(big.Int).SetString(Hex(a.Den), 16)
	if a.Num.Neg {
		num.Neg(num)
	}
	if den.Sign() == 0 {
		return new(big.Rat)
	}
	return new(big.Rat).SetFrac(num, den)
}

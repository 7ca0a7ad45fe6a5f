package interval_test

import (
	"math"
	"testing"

	"dspcompiler/api"
	"dspcompiler/internal/sample"
	"dspcompiler/interval"
	"dspcompiler/rational"
)

// P4.1

func TestValid(t *testing.T) {
	unreduced := api.Rat{Num: api.Int{Mag: []uint32{2}}, Den: []uint32{4}}
	for _, a := range []api.Interval{of(0, 0), of(-1, 2), of(2, 2), of(-5, -4), {Lo: rational.Of(0), Hi: rational.Frac(1, 2)}} {
		if !interval.Valid(a) {
			t.Error("Valid is false for", a)
		}
	}
	for _, a := range []api.Interval{
		{}, of(2, 1), of(0, -1), of(-4, -5), {Lo: rational.Of(0)}, {Hi: rational.Of(0)}, {Lo: rational.Of(0), Hi: unreduced}, {Lo: unreduced, Hi: rational.Of(1)},
		{Lo: unreduced, Hi: unreduced}, {Lo: rational.Of(-1), Hi: api.Rat{Num: api.Int{Neg: true}, Den: []uint32{1}}},
	} {
		if interval.Valid(a) {
			t.Error("Valid is true for", a)
		}
	}
	for _, a := range intervals() {
		if interval.Valid(a) != isValid(a) {
			t.Error("Valid", a)
		}
	}
}

func TestTrimAndMake(t *testing.T) {
	for _, a := range intervals() {
		expect(t, "Trim", interval.Trim(a), a, a)
		expect(t, "Make", interval.Make(a.Lo, a.Hi), a, a)
		expect(t, "Make", interval.Make(a.Hi, a.Lo), a, a)
		if isValid(a) && !sample.SameInterval(interval.Trim(a), a) {
			t.Error("Trim changes a valid interval", a)
		}
	}
	expect(t, "Trim", interval.Trim(api.Interval{}), of(0, 0))
}

func TestContains(t *testing.T) {
	for _, a := range intervals() {
		lo, hi := bounds(a)
		for _, x := range members(a) {
			if !interval.Contains(a, x) {
				t.Error("Contains is false for a member", a, x)
			}
		}
		for _, gap := range []api.Rat{rational.Frac(1, 1000000), rational.Of(1), rational.Of(1 << 40)} {
			for _, x := range []api.Rat{rational.Sub(lo, gap), rational.Add(hi, gap)} {
				if interval.Contains(a, x) {
					t.Error("Contains is true for another number", a, x)
				}
			}
		}
	}
	if !interval.Contains(of(-1, 1), api.Rat{}) || interval.Contains(of(1, 2), api.Rat{}) {
		t.Error("Contains of a 0 without a denominator")
	}
}

func TestInside(t *testing.T) {
	rows := []struct {
		a, b api.Interval
		want bool
	}{
		{of(0, 6), of(0, 6), true}, {of(6, 0), of(0, 6), true}, {of(0, 6), of(6, 0), true}, {of(1, 5), of(0, 6), true}, {of(0, 5), of(0, 6), true}, {of(1, 6), of(0, 6), true},
		{of(-1, 5), of(0, 6), false}, {of(1, 7), of(0, 6), false}, {of(-1, 7), of(0, 6), false}, {of(7, 9), of(0, 6), false}, {of(-9, -7), of(0, 6), false}, {of(3, 3), of(0, 6), true},
		{of(6, 6), of(0, 6), true}, {of(0, 6), of(3, 3), false}, {of(3, 3), of(3, 3), true}, {of(3, 3), of(4, 4), false}, {api.Interval{}, of(-1, 1), true}, {api.Interval{}, of(1, 2), false}, {of(0, 0), api.Interval{}, true},
	}
	for _, row := range rows {
		if interval.Inside(row.a, row.b) != row.want {
			t.Error("Inside is not", row.want, "for", row.a, row.b)
		}
	}
	pairs(func(a, b api.Interval) {
		if interval.Inside(a, b) != (has(b, a.Lo) && has(b, a.Hi)) {
			t.Fatal("Inside", a, b)
		}
	})
}

func TestSign(t *testing.T) {
	rows := []struct {
		a    api.Interval
		want int
	}{
		{of(1, 2), 1}, {of(2, 1), 1}, {of(1, 1), 1}, {of(0, 2), 0}, {of(2, 0), 0}, {of(-2, -1), -1}, {of(-1, -2), -1}, {of(-1, -1), -1}, {of(-2, 0), 0}, {of(0, -2), 0},
		{of(-1, 1), 0}, {of(1, -1), 0}, {of(0, 0), 0}, {api.Interval{}, 0}, {api.Interval{Hi: rational.Of(1)}, 0}, {api.Interval{Lo: rational.Of(-1)}, 0},
	}
	for _, row := range rows {
		if interval.Sign(row.a) != row.want {
			t.Error("Sign is not", row.want, "for", row.a)
		}
	}
	for _, a := range intervals() {
		lo, hi := bounds(a)
		want := 0
		switch {
		case rational.Sign(lo) > 0:
			want = 1
		case rational.Sign(hi) < 0:
			want = -1
		}
		if interval.Sign(a) != want {
			t.Error("Sign is not", want, "for", a)
		}
	}
}

func TestWidthAndMid(t *testing.T) {
	for _, a := range intervals() {
		lo, hi := bounds(a)
		if got := interval.Width(a); !sample.SameRat(got, rational.Sub(hi, lo)) {
			t.Error("Width", a, got)
		}
		// The middle is as far from one end as from the other one.
		got := interval.Mid(a)
		if !rational.Valid(got) || !sample.SameRat(rational.Sub(got, lo), rational.Sub(hi, got)) {
			t.Error("Mid", a, got)
		}
	}
	if !sample.SameRat(interval.Width(of(12, -6)), rational.Of(3)) || !sample.SameRat(interval.Mid(of(12, -6)), rational.Frac(1, 2)) {
		t.Error("Width and Mid of an interval whose ends are exchanged")
	}
}

// P4.3

func TestMeet(t *testing.T) {
	rows := []struct {
		a, b, want api.Interval
		ok         bool
	}{
		{of(0, 6), of(3, 9), of(3, 6), true}, {of(6, 0), of(9, 3), of(3, 6), true}, {of(0, 9), of(3, 6), of(3, 6), true}, {of(3, 6), of(0, 9), of(3, 6), true}, {of(0, 6), of(6, 9), of(6, 6), true},
		{of(6, 9), of(0, 6), of(6, 6), true}, {of(4, 4), of(4, 4), of(4, 4), true}, {of(4, 4), of(0, 9), of(4, 4), true}, {of(0, 5), of(6, 9), api.Interval{}, false}, {of(6, 9), of(0, 5), api.Interval{}, false},
		{of(4, 4), of(5, 5), api.Interval{}, false}, {api.Interval{}, of(-1, 1), of(0, 0), true}, {api.Interval{}, of(1, 2), api.Interval{}, false},
	}
	for _, row := range rows {
		got, ok := interval.Meet(row.a, row.b)
		if ok != row.ok || !sample.SameInterval(got, row.want) {
			t.Error("Meet", row, got, ok)
		}
	}
	pairs(func(a, b api.Interval) { checkMeet(t, a, b) })
}

// checkMeet compares Meet with its definition.
func checkMeet(t *testing.T, a, b api.Interval) {
	t.Helper()
	got, ok := interval.Meet(a, b)
	// Intervals that have a number in common have an end of one of them.
	common := has(a, b.Lo) || has(a, b.Hi) || has(b, a.Lo) || has(b, a.Hi)
	if ok != common {
		t.Fatal("Meet is not", common, "for", a, b)
	}
	if !ok {
		refuse(t, "Meet", got, api.OK, api.OK, a, b)
		return
	}
	if !isValid(got) || !has(a, got.Lo) || !has(b, got.Lo) || !has(a, got.Hi) || !has(b, got.Hi) {
		t.Fatal("Meet contains numbers that are not in both", a, b, got)
	}
	for _, x := range append(members(a), members(b)...) {
		if has(a, x) && has(b, x) && !has(got, x) {
			t.Fatal("Meet does not contain a number that is in both", a, b, got, x)
		}
	}
}

func TestHull(t *testing.T) {
	expect(t, "Hull", interval.Hull(of(0, 1), of(4, 3)), of(0, 4))
	expect(t, "Hull", interval.Hull(of(4, 3), of(1, 0)), of(0, 4))
	expect(t, "Hull", interval.Hull(of(0, 9), of(4, 3)), of(0, 9))
	expect(t, "Hull", interval.Hull(of(4, 4), of(4, 4)), of(4, 4))
	expect(t, "Hull", interval.Hull(api.Interval{}, of(4, 5)), of(0, 5))
	pairs(func(a, b api.Interval) {
		got := interval.Hull(a, b)
		if !isValid(got) || !has(got, a.Lo) || !has(got, a.Hi) || !has(got, b.Lo) || !has(got, b.Hi) {
			t.Fatal("Hull does not contain both", a, b, got)
		}
		for _, x := range []api.Rat{got.Lo, got.Hi} {
			if !has(a, x) && !has(b, x) {
				t.Fatal("Hull is not the least one", a, b, got)
			}
		}
	})
}

// multiple reports whether a number is a multiple of 2^(-bits).
func multiple(x api.Rat, bits int) bool {
	down, e := rational.Down(x, bits)
	return e == api.OK && rational.Compare(down, x) == 0
}

// step returns 2^(-bits).
func step(bits int) api.Rat {
	z := rational.Of(1)
	for range bits {
		z = rational.Mul(z, rational.Frac(1, 2))
	}
	return z
}

func TestRound(t *testing.T) {
	for _, bits := range []int{0, 1, 2, 31, 32, 33, api.MaxBits - 1, api.MaxBits} {
		unit := step(bits)
		for _, a := range intervals() {
			got, e := interval.Round(a, bits)
			if e != api.OK || !isValid(got) || !multiple(got.Lo, bits) || !multiple(got.Hi, bits) {
				t.Fatal("Round does not end at multiples", a, bits, got, e)
			}
			lo, hi := bounds(a)
			if !has(got, lo) || !has(got, hi) || atMost(rational.Add(got.Lo, unit), lo) || atMost(hi, rational.Sub(got.Hi, unit)) {
				t.Fatal("Round is not the least one that contains the interval", a, bits, got)
			}
		}
	}
}

func TestRoundOfSmallIntervals(t *testing.T) {
	rows := []struct {
		a, want api.Interval
		bits    int
	}{
		{of(2, 2), of(0, 3), 1}, {of(-2, -2), of(-3, 0), 1}, {of(-2, 3), of(-3, 3), 1}, {of(3, -2), of(-3, 3), 1}, {of(1, 5), of(0, 6), 0}, {of(6, 12), of(6, 12), 0}, {of(-7, 7), of(-12, 12), 0}, {api.Interval{}, of(0, 0), 5},
	}
	for _, row := range rows {
		got, e := interval.Round(row.a, row.bits)
		if e != api.OK {
			t.Fatal("Round fails", row, e)
		}
		expect(t, "Round", got, row.want, row.a, row.bits)
	}
}

func TestRoundToWrongBits(t *testing.T) {
	for _, a := range []api.Interval{{}, of(0, 0), of(2, 3), of(3, -2), of(-7, -7)} {
		for _, bits := range []int{-1, api.MaxBits + 1, math.MinInt, math.MaxInt} {
			got, e := interval.Round(a, bits)
			refuse(t, "Round", got, e, api.ErrArg, a, bits)
		}
	}
}

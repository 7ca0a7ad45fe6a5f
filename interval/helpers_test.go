package interval_test

import (
	"testing"

	"dspcompiler/api"
	"dspcompiler/internal/sample"
	"dspcompiler/interval"
	"dspcompiler/rational"
)

// of returns the interval from a / 6 to b / 6, with its ends as they are given.
func of(a, b int) api.Interval {
	return api.Interval{Lo: rational.Frac(a, 6), Hi: rational.Frac(b, 6)}
}

// atMost reports whether x <= y.
func atMost(x, y api.Rat) bool {
	return rational.Compare(x, y) <= 0
}

// bounds returns the lesser and the greater end, in lowest terms.
func bounds(a api.Interval) (api.Rat, api.Rat) {
	lo, hi := rational.Trim(a.Lo), rational.Trim(a.Hi)
	if !atMost(lo, hi) {
		return hi, lo
	}
	return lo, hi
}

// has is the definition of what an interval contains.
func has(a api.Interval, x api.Rat) bool {
	lo, hi := bounds(a)
	return atMost(lo, x) && atMost(x, hi)
}

// isValid is the definition of a valid interval.
func isValid(a api.Interval) bool {
	return rational.Valid(a.Lo) && rational.Valid(a.Hi) && atMost(a.Lo, a.Hi)
}

// members returns numbers of an interval: both ends, some between them, and 0
// if it is there.
func members(a api.Interval) []api.Rat {
	lo, hi := bounds(a)
	width := rational.Sub(hi, lo)
	list := []api.Rat{lo, hi}
	for _, part := range []api.Rat{rational.Frac(1, 2), rational.Frac(1, 3), rational.Frac(9, 10)} {
		list = append(list, rational.Add(lo, rational.Mul(width, part)))
	}
	if zero := rational.Of(0); has(a, zero) {
		list = append(list, zero)
	}
	return list
}

// intervals are intervals in forms of all kinds and of many sizes.
func intervals() []api.Interval {
	list := sample.Intervals()
	g := sample.Generator(1)
	for n := range 12 {
		list = append(list, g.Interval(n), g.Interval(n))
	}
	return list
}

// pairs calls a function with pairs of all intervals, and with intervals that
// share an end.
func pairs(f func(a, b api.Interval)) {
	for _, a := range intervals() {
		for _, b := range intervals() {
			f(a, b)
		}
	}
	g := sample.Generator(2)
	for range 200 {
		a, x := g.Interval(1+g.Below(5)), g.Rat(1+g.Below(5))
		f(a, api.Interval{Lo: x, Hi: a.Lo})
		f(api.Interval{Lo: a.Hi, Hi: x}, a)
	}
}

// expect fails the test if a result is not valid or not the interval wanted.
func expect(t *testing.T, call string, got, want api.Interval, arguments ...any) {
	t.Helper()
	lo, hi := bounds(want)
	if !isValid(got) || !sample.SameInterval(got, api.Interval{Lo: lo, Hi: hi}) {
		t.Fatalf("%s is %v and not %v, for %v", call, got, want, arguments)
	}
}

// refuse fails the test if a call does not fail with the error wanted and a
// zero value.
func refuse(t *testing.T, call string, got api.Interval, err, want api.Errno, arguments ...any) {
	t.Helper()
	if err != want || !sample.SameInterval(got, api.Interval{}) {
		t.Fatalf("%s is %v with error %d and not error %d, for %v", call, got, err, want, arguments)
	}
}

// The helpers call functions of the package nowhere, so that they can be
// compared with it.
func TestHelpers(t *testing.T) {
	turned := of(3, -12)
	for _, x := range members(turned) {
		if !has(turned, x) || !interval.Contains(turned, x) {
			t.Error("a member is not in the interval", x)
		}
	}
	if len(members(turned)) != 6 || len(members(of(1, 2))) != 5 || has(turned, rational.Of(1)) || has(turned, rational.Of(-3)) {
		t.Error("the members of an interval")
	}
	if isValid(turned) || isValid(api.Interval{}) || !isValid(of(-12, 3)) || !isValid(of(3, 3)) {
		t.Error("the definition of a valid interval")
	}
}

package sturm_test

import (
	"testing"

	"dspcompiler/api"
	"dspcompiler/internal/sample"
	"dspcompiler/interval"
	"dspcompiler/poly"
	"dspcompiler/rational"
	"dspcompiler/sturm"
)

// P6.2

func TestSignAfter(t *testing.T) {
	for _, k := range knowns() {
		for _, x := range places() {
			if got, err := sturm.SignAfter(k.poly(), x); err != api.OK || got != k.after(x) {
				t.Fatal("SignAfter is", got, err, "and not", k.after(x), "of", k.poly(), x)
			}
		}
	}
}

func TestSignAfterExamples(t *testing.T) {
	for _, x := range []struct {
		p    api.Poly
		x    api.Rat
		want int
	}{
		{of(0, -1, 1), rational.Of(0), -1}, {of(0, -1, 1), rational.Of(1), 1}, {of(0, -1, 1), rational.Of(-1), 1}, {of(0, -1, 1), rational.Frac(1, 2), -1}, {of(0, -1, 1), api.Rat{}, -1},
		{of(0, 0, -3), rational.Of(0), -1}, {of(0, 0, 0, 3), rational.Of(0), 1}, {of(0, 0, 0, 3, 0), rational.Of(-1), -1}, {of(4), rational.Of(7), 1}, {of(-4, 0), rational.Of(7), -1},
		{monomial(1, api.MaxDegree), rational.Of(0), 1}, {monomial(-1, api.MaxDegree-1), rational.Of(0), -1}, {monomial(-1, api.MaxDegree-1), rational.Of(-1), 1},
	} {
		if got, err := sturm.SignAfter(x.p, x.x); err != api.OK || got != x.want {
			t.Error("SignAfter is", got, err, "of", x)
		}
	}
}

func TestSignAfterOfZeroAndRefusal(t *testing.T) {
	for _, x := range places() {
		for _, p := range zeros() {
			if sign, err := sturm.SignAfter(p, x); err != api.OK || sign != 0 {
				t.Error("SignAfter of zero", p, sign, err)
			}
		}
		for _, p := range tooGreat() {
			if sign, err := sturm.SignAfter(p, x); err != api.ErrDegree || sign != 0 {
				t.Error("SignAfter of a great degree", len(p), sign, err)
			}
		}
	}
}

// P6.4

// expectSigns fails the test if Nonnegative and Positive do not return what is
// wanted.
func expectSigns(t *testing.T, p api.Poly, on api.Interval, nonnegative, positive bool) {
	t.Helper()
	got, err := sturm.Nonnegative(p, on)
	if err != api.OK || got != nonnegative {
		t.Fatal("Nonnegative is", got, err, "of", p, on)
	}
	got, err = sturm.Positive(p, on)
	if err != api.OK || got != positive {
		t.Fatal("Positive is", got, err, "of", p, on)
	}
}

func TestNonnegativeAndPositive(t *testing.T) {
	for _, k := range knowns() {
		p := k.poly()
		spans(func(a, b api.Rat) {
			value := rational.Sign(poly.Eval(p, a))
			nonnegative := value >= 0
			if rational.Compare(a, b) < 0 {
				nonnegative = k.after(a) > 0 && !k.turns(a, b)
			}
			expectSigns(t, p, api.Interval{Lo: a, Hi: b}, nonnegative, value > 0 && k.count(a, b) == 0)
		})
	}
}

func TestSignsExamples(t *testing.T) {
	square, fourth := of(1, -2, 1), of(1, -4, 6, -4, 1) // of x - 1
	cube := of(-1, 3, -3, 1)
	negative := func(p api.Poly) api.Poly { return poly.Scale(p, rational.Of(-1)) }
	for _, x := range []struct {
		p                     api.Poly
		on                    api.Interval
		nonnegative, positive bool
	}{
		{square, on(0, 4), true, false}, {square, on(4, 0), true, false}, {square, on(2, 2), true, false}, {square, on(3, 9), true, true}, {square, on(2, 9), true, false}, {square, on(-9, 2), true, false},
		{fourth, on(0, 4), true, false}, {negative(fourth), on(0, 4), false, false}, {negative(fourth), on(2, 2), true, false}, {negative(square), on(0, 2), false, false}, {negative(square), on(2, 4), false, false},
		{cube, on(2, 4), true, false}, {cube, on(0, 2), false, false}, {cube, on(0, 4), false, false}, {cube, on(2, 2), true, false}, {cube, on(3, 4), true, true}, {negative(cube), on(0, 2), true, false},
		{negative(cube), on(2, 4), false, false}, {poly.Mul(square, cube), on(0, 4), false, false}, {poly.Mul(cube, cube), on(0, 4), true, false}, {poly.Mul(fourth, of(-2, 0, 1)), on(0, 2), false, false},
		{of(0, -1, 0, 1), on(-2, 2), false, false}, {of(0, -1, 0, 1), on(-2, 0), true, false}, {of(0, -1, 0, 1), on(-1, -1), true, true}, {of(0, -1, 0, 1), on(1, 1), false, false},
		{of(1, -4, 2), on(0, 4), false, false}, {of(3, -4, 2), on(0, 4), true, true}, {of(2, -4, 2), on(0, 4), true, false}, {of(5), on(0, 1), true, true}, {of(-5), on(0, 1), false, false},
		{of(1), api.Interval{}, true, true}, {of(0, 1), api.Interval{}, true, false}, {of(-1, 1), api.Interval{}, false, false}, {monomial(1, api.MaxDegree), on(-2, 2), true, false}, {monomial(1, api.MaxDegree-1), on(-2, 2), false, false},
		{poly.Add(monomial(1, api.MaxDegree), of(1)), on(-2, 2), true, true}, {append(of(1, 1), make(api.Poly, api.MaxDegree)...), on(0, 2), true, true},
	} {
		expectSigns(t, x.p, x.on, x.nonnegative, x.positive)
	}
}

// The values between the ends, where it may be negative only on a short way.
func TestSignsOfShortWays(t *testing.T) {
	g := sample.Generator(3)
	for bits := 1; bits <= 200; bits += 33 {
		for _, root := range []api.Rat{rational.Frac(1, 3), rational.Frac(-5, 8), g.Rat(1)} {
			line := api.Poly{rational.Neg(root), rational.Of(1)}
			square := poly.Mul(line, line)
			span := interval.Make(rational.Sub(root, rational.Frac(7, 5)), rational.Add(root, rational.Of(3)))
			expectSigns(t, square, span, true, false)
			expectSigns(t, poly.Add(square, api.Poly{width(bits)}), span, true, true)
			expectSigns(t, poly.Sub(square, api.Poly{width(bits)}), span, false, false)
		}
	}
}

func TestSignsOfZeroAndRefusal(t *testing.T) {
	for _, span := range []api.Interval{{}, on(-2, 2), on(2, -2), on(1, 1)} {
		for _, p := range zeros() {
			expectSigns(t, p, span, true, false)
		}
		for _, p := range append(tooGreat(), poly.Add(monomial(1, api.MaxDegree+2), of(1))) {
			if got, err := sturm.Nonnegative(p, span); err != api.ErrDegree || got {
				t.Error("Nonnegative of a great degree", len(p), got, err)
			}
			if got, err := sturm.Positive(p, span); err != api.ErrDegree || got {
				t.Error("Positive of a great degree", len(p), got, err)
			}
		}
	}
}

// Consequences of the chapter: Positive implies Nonnegative, a positive
// polynomial has no root, and one that is not negative has no negative value.
func TestSignsOfAnyPolynomial(t *testing.T) {
	g := sample.Generator(4)
	for _, p := range append(sample.Polys(), g.Poly(9, 1), g.Whole(7), g.Whole(20)) {
		for _, span := range sample.Intervals() {
			nonnegative, _ := sturm.Nonnegative(p, span)
			positive, _ := sturm.Positive(p, span)
			if positive && (!nonnegative || mustCount(t, p, span) > 0) {
				t.Fatal("Positive", p, span)
			}
			low := lowest(p, span)
			if nonnegative && low < 0 || positive && low <= 0 {
				t.Fatal("a value is not as it should be", p, span, nonnegative, positive)
			}
			if low > 0 && !positive && mustCount(t, p, span) == 0 {
				t.Fatal("Positive is false without a root", p, span)
			}
		}
	}
}

// lowest returns the least sign at some numbers of an interval.
func lowest(p api.Poly, on api.Interval) int {
	low := 1
	for i := range 9 {
		x := rational.Add(on.Lo, rational.Mul(rational.Frac(i, 8), rational.Sub(on.Hi, on.Lo)))
		low = min(low, rational.Sign(poly.Eval(p, x)))
	}
	return low
}

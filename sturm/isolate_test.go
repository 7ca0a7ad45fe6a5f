package sturm_test

import (
	"math"
	"testing"

	"dspcompiler/api"
	"dspcompiler/internal/sample"
	"dspcompiler/interval"
	"dspcompiler/poly"
	"dspcompiler/rational"
	"dspcompiler/sturm"
)

// P6.3

// checkIsolate compares the intervals that are returned with their definition,
// and returns them.
func checkIsolate(t *testing.T, p api.Poly, on api.Interval, bits int) []api.Interval {
	t.Helper()
	list, err := sturm.Isolate(p, on, bits)
	if err != api.OK || len(list) != mustCount(t, p, on) {
		t.Fatal("Isolate finds", len(list), "roots of", p, on, bits, err)
	}
	for i, x := range list {
		switch {
		case !interval.Valid(x):
			t.Fatal("an interval is not valid", p, on, bits, list)
		case !interval.Inside(x, on):
			t.Fatal("an interval is not contained", p, on, bits, list)
		case rational.Compare(interval.Width(x), width(bits)) > 0:
			t.Fatal("an interval is too wide", p, on, bits, list)
		case mustCount(t, p, x) != 1:
			t.Fatal("an interval has not one root", p, on, bits, list)
		case i > 0 && rational.Compare(list[i-1].Hi, x.Lo) > 0:
			t.Fatal("intervals do not ascend", p, on, bits, list)
		}
	}
	return list
}

func TestIsolate(t *testing.T) {
	call := 0
	for i, k := range knowns() {
		p := k.poly()
		spans(func(a, b api.Rat) {
			if call++; call%5 > 0 {
				return
			}
			for _, x := range checkIsolate(t, p, interval.Make(a, b), i%14) {
				if k.count(x.Lo, x.Hi) != 1 {
					t.Fatal("an interval has not one of the known roots", p, a, b, x)
				}
			}
		})
	}
}

// Intervals of neighbours meet at roots here, wherever an interval is halved.
func TestIsolateRootsAtMiddles(t *testing.T) {
	p := of(1)
	for i := range 9 {
		p = poly.Mul(p, of(4-i, 2))
		for _, bits := range []int{0, 1, 2, 9} {
			for n := range 9 {
				checkIsolate(t, p, on(-n, n), bits)
				checkIsolate(t, p, on(n, 9), bits)
				checkIsolate(t, poly.Mul(p, p), on(-n, 8), bits)
			}
		}
	}
}

func TestIsolateNearRoots(t *testing.T) {
	for _, bits := range []int{1, 7, 40, 90} {
		line := poly.Add(of(-1, 2), api.Poly{width(bits)})
		near := poly.Mul(of(-1, 2), poly.Mul(line, of(-2, 0, 1)))
		for _, n := range []int{0, 5, 60} {
			if list := checkIsolate(t, near, on(-5, 5), n); len(list) != 4 {
				t.Error("Isolate of near roots", bits, n, list)
			}
		}
	}
}

func TestIsolateBits(t *testing.T) {
	for _, bits := range []int{0, 1, 31, 32, 100, api.MaxBits - 1, api.MaxBits} {
		for _, p := range []api.Poly{of(-2, 0, 1), of(-1, 3), of(0, -1, 0, 1), poly.Mul(of(-2, 0, 1), of(4, 0, -4, 0, 1)), of(-7, 0, 0, 0, 0, 1)} {
			checkIsolate(t, p, on(-4, 4), bits)
			checkIsolate(t, p, interval.Make(rational.Frac(-17, 7), rational.Frac(22, 7)), bits)
		}
	}
}

func TestIsolateEdges(t *testing.T) {
	cubic := of(0, -1, 0, 1)
	for _, x := range []struct {
		p  api.Poly
		on api.Interval
	}{
		{cubic, on(-2, 2)}, {cubic, on(2, -2)}, {cubic, on(0, 0)}, {cubic, on(1, 1)}, {cubic, on(2, 2)}, {cubic, api.Interval{}}, {cubic, on(3, 8)}, {cubic, on(0, 2)}, {cubic, on(-2, 0)},
		{of(3), on(-2, 2)}, {of(3, 0), on(0, 0)}, {of(1, 0, 1), on(-8, 8)}, {of(-9, 1), on(-8, 8)}, {of(-4, 1), on(-8, 8)}, {monomial(5, api.MaxDegree), on(-8, 8)}, {monomial(5, api.MaxDegree), on(0, 8)},
		{append(cubic, make(api.Poly, api.MaxDegree)...), on(-2, 2)},
	} {
		for _, bits := range []int{0, 3, 50} {
			checkIsolate(t, x.p, x.on, bits)
		}
	}
}

// An interval that is much longer than the roots reach is searched soon.
func TestIsolateOnLongIntervals(t *testing.T) {
	far := rational.Of(1 << 62)
	for range 6 {
		far = rational.Mul(far, far)
	}
	p := poly.Mul(chebyshev(9), of(-1000, 0, 1))
	for _, span := range []api.Interval{{Lo: rational.Neg(far), Hi: far}, {Lo: far, Hi: rational.Of(-1)}, {Lo: far, Hi: rational.Mul(far, far)}, {Lo: far, Hi: far}} {
		checkIsolate(t, p, span, 9)
		checkIsolate(t, of(-1, 5), span, 9)
		checkIsolate(t, of(7), span, 9)
	}
	// The farthest roots are nearly as far from 0 as Cauchy's bound allows.
	for n := 1; n < 9; n++ {
		for _, c := range []api.Rat{rational.Of(-1000), rational.Frac(-2001, 2), rational.Frac(-1, 1000), rational.Of(-1 << 40)} {
			right, left := monomial(1, n), monomial(1, n)
			for i := range n {
				right[i], left[i] = c, c
				if (n-i)%2 == 1 {
					left[i] = rational.Neg(c)
				}
			}
			checkIsolate(t, right, api.Interval{Lo: rational.Of(0), Hi: far}, 5)
			checkIsolate(t, left, api.Interval{Lo: rational.Neg(far), Hi: rational.Of(0)}, 5)
			checkIsolate(t, poly.Add(monomial(1, n), api.Poly{c}), api.Interval{Lo: rational.Of(0), Hi: far}, 5)
		}
	}
}

func TestIsolateAnyPolynomial(t *testing.T) {
	g := sample.Generator(5)
	for i, p := range append(sample.Polys(), g.Poly(9, 1), g.Poly(6, 2), g.Whole(9), g.Whole(20)) {
		if poly.Degree(p) < 0 {
			continue
		}
		for _, span := range sample.Intervals() {
			checkIsolate(t, p, span, i%20)
		}
	}
}

func TestIsolateRefuses(t *testing.T) {
	refuse := func(p api.Poly, bits int, want api.Errno) {
		t.Helper()
		for _, span := range []api.Interval{{}, on(-2, 2), on(1, 1)} {
			if list, err := sturm.Isolate(p, span, bits); err != want || len(list) != 0 {
				t.Error("Isolate returns", list, err, "and not", want)
			}
		}
	}
	for _, bits := range []int{-1, api.MaxBits + 1, math.MinInt, math.MaxInt} {
		for _, p := range append(append(zeros(), tooGreat()...), of(0, 1)) {
			refuse(p, bits, api.ErrArg)
		}
	}
	for _, bits := range []int{0, 9, api.MaxBits} {
		for _, p := range tooGreat() {
			refuse(p, bits, api.ErrDegree)
		}
		for _, p := range zeros() {
			refuse(p, bits, api.ErrZero)
		}
	}
}

// The sizes that the higher layers work with are done soon.
func TestGreatDegrees(t *testing.T) {
	p := chebyshev(api.MaxDegree)
	if got := len(checkIsolate(t, p, on(-2, 2), 12)); got != api.MaxDegree {
		t.Error("the number of roots is", got)
	}
	square := chebyshev(api.MaxDegree / 2)
	square = poly.Mul(square, square)
	if got := len(checkIsolate(t, square, on(-2, 2), 4)); got != api.MaxDegree/2 {
		t.Error("the number of roots is", got)
	}
	expectSigns(t, square, on(-2, 2), true, false)
	expectSigns(t, poly.Add(p, of(1)), on(-2, 2), true, false)
	expectSigns(t, poly.Add(p, api.Poly{rational.Frac(1001, 1000)}), on(-2, 2), true, true)
	expectSigns(t, poly.Add(p, api.Poly{rational.Frac(999, 1000)}), on(-2, 2), false, false)
}

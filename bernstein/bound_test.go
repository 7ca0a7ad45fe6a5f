package bernstein_test

import (
	"math"
	"testing"

	"dspcompiler/api"
	"dspcompiler/bernstein"
	"dspcompiler/internal/sample"
	"dspcompiler/interval"
	"dspcompiler/poly"
	"dspcompiler/rational"
)

// P7.4

// checkBound compares the bound with its definition.
func checkBound(t *testing.T, p api.Poly, on api.Interval, depth int) {
	t.Helper()
	got := mustBound(t, p, on, depth)
	list := parts(on, depth)
	want := bernstein.Range(p, list[0])
	for _, part := range list {
		want = interval.Hull(want, bernstein.Range(p, part))
	}
	if !sample.SameInterval(got, want) {
		t.Fatal("Bound is", got, "and not", want, "of", p, on, depth)
	}
}

func TestBound(t *testing.T) {
	call := 0
	operands(func(p api.Poly, on api.Interval) {
		call++
		checkBound(t, p, on, call%5)
	})
}

// The least or the greatest coefficient is in the first part here, in the last
// one, and in parts between others.
func TestBoundOfWaves(t *testing.T) {
	g := sample.Generator(4)
	for _, n := range []int{3, 6, 11} {
		for _, on := range []api.Interval{on(-4, 4), on(5, -3), on(-4, 3), on(0, 4), on(-7, -1), g.Interval(1)} {
			for depth := range 6 {
				checkBound(t, chebyshev(n), on, depth)
				checkBound(t, poly.Mul(chebyshev(n), of(1, g.Below(9)-4)), on, depth)
				checkBound(t, g.Whole(n), on, depth)
			}
		}
	}
	checkBound(t, well(rational.Of(-1)), on(-4, 4), 9)
	checkBound(t, of(0, -1, 3, -2), on(0, 4), api.MaxDepth)
}

func TestBoundExamples(t *testing.T) {
	third := rational.Frac(1, 3)
	for _, x := range []struct {
		p     api.Poly
		on    api.Interval
		depth int
		want  api.Interval
	}{
		{of(0, 0, 1), on(-4, 4), 0, on(-4, 4)}, {of(0, 0, 1), on(-4, 4), 1, on(0, 4)}, {of(0, 0, 1), on(4, -4), 2, on(0, 4)}, {of(0, 0, 1), on(-4, 4), api.MaxDepth, on(0, 4)},
		{of(0, -1, 1), on(0, 4), 0, on(-2, 0)}, {of(0, -1, 1), on(0, 4), 1, on(-1, 0)}, {of(0, -1, 1), on(0, 4), 2, on(-1, 0)},
		{of(7), on(0, 4), 3, on(28, 28)}, {of(-7, 0), on(0, 4), api.MaxDepth, on(-28, -28)}, {of(1, 2), on(-4, 8), 5, on(-4, 20)}, {of(1, 2, 3), on(4, 4), 4, on(24, 24)},
		{of(1, 2, 3), api.Interval{}, 4, on(4, 4)}, {api.Poly{third}, on(0, 1), 0, interval.Make(third, third)},
	} {
		if got := mustBound(t, x.p, x.on, x.depth); !sample.SameInterval(got, x.want) {
			t.Error("Bound is", got, "of", x)
		}
	}
	for _, p := range zeros() {
		for _, depth := range []int{0, 3, api.MaxDepth} {
			if got := mustBound(t, p, on(4, 8), depth); !sample.SameInterval(got, on(0, 0)) {
				t.Error("Bound of zero", p, got)
			}
		}
	}
}

// The bound of x^2 - x / 3 from 0 to 1 is the value at the ends of the part with
// the number 1/6, less a number that becomes 4 times less with each depth.
func TestBoundAtMaxDepth(t *testing.T) {
	p := api.Poly{rational.Of(0), rational.Frac(-1, 3), rational.Of(1)}
	for depth := range api.MaxDepth + 1 {
		width := power2(-depth)
		sixth := rational.Frac(1, 6)
		left, _ := rational.Down(sixth, depth)
		right := rational.Add(left, width)
		// The middle coefficient is (left - 1/6) (right - 1/6) - 1/36.
		low := rational.Sub(rational.Mul(rational.Sub(left, sixth), rational.Sub(right, sixth)), rational.Frac(1, 36))
		if got := mustBound(t, p, on(0, 4), depth); !sample.SameInterval(got, interval.Make(low, rational.Frac(2, 3))) {
			t.Error("Bound is", got, "at the depth", depth)
		}
	}
}

func TestBoundRefuses(t *testing.T) {
	refuse := func(p api.Poly, depth int, want api.Errno) {
		t.Helper()
		for _, on := range []api.Interval{{}, on(0, 4), on(4, -4)} {
			if got, err := bernstein.Bound(p, on, depth); err != want || !sample.SameInterval(got, api.Interval{}) {
				t.Error("Bound returns", got, err, "and not", want)
			}
		}
	}
	for _, depth := range []int{-1, api.MaxDepth + 1, math.MinInt, math.MaxInt} {
		for _, p := range append(append(zeros(), tooGreat()...), of(0, 1)) {
			refuse(p, depth, api.ErrArg)
		}
	}
	for _, depth := range []int{0, 5, api.MaxDepth} {
		for _, p := range tooGreat() {
			refuse(p, depth, api.ErrDegree)
		}
		mustBound(t, monomial(1, api.MaxDegree), on(-4, 4), depth)
		mustBound(t, append(monomial(1, api.MaxDegree), of(0, 0)...), on(4, -4), depth)
	}
}

// Consequences of the chapter: the bound contains all values, and shrinks with
// the depth.
func TestBoundContainsValuesAndShrinks(t *testing.T) {
	operands(func(p api.Poly, on api.Interval) {
		last := bernstein.Range(p, on)
		for depth := range 5 {
			got := mustBound(t, p, on, depth)
			if !interval.Inside(got, last) {
				t.Fatal("Bound grows", p, on, depth)
			}
			for i := range 14 {
				if !interval.Contains(got, poly.Eval(p, within(on, rational.Frac(i, 13)))) {
					t.Fatal("Bound does not contain a value", p, on, depth, i)
				}
			}
			last = got
		}
	})
}

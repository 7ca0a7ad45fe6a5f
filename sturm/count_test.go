package sturm_test

import (
	"testing"

	"dspcompiler/api"
	"dspcompiler/internal/sample"
	"dspcompiler/interval"
	"dspcompiler/poly"
	"dspcompiler/rational"
	"dspcompiler/sturm"
)

// P6.1

func TestCount(t *testing.T) {
	for _, k := range knowns() {
		p := k.poly()
		spans(func(a, b api.Rat) {
			if got, want := mustCount(t, p, api.Interval{Lo: a, Hi: b}), k.count(a, b); got != want {
				t.Fatal("Count is", got, "and not", want, "of", p, a, b)
			}
		})
	}
}

func TestCountExamples(t *testing.T) {
	cubic := of(0, -1, 0, 1)
	for _, x := range []struct {
		p    api.Poly
		on   api.Interval
		want int
	}{
		{cubic, on(-2, 2), 3}, {cubic, on(2, -2), 3}, {cubic, on(-1, 1), 1}, {cubic, on(0, 2), 2}, {cubic, on(0, 0), 1}, {cubic, on(1, 1), 0}, {cubic, on(3, 9), 0},
		{append(cubic, of(0, 0)...), on(2, 9), 1}, {cubic, api.Interval{}, 1}, {of(1, 2), api.Interval{}, 0}, {of(5), on(-9, 9), 0}, {of(5, 0), on(0, 0), 0}, {of(-5), on(1, 2), 0},
		{of(0, 0, 1), on(-2, 2), 1}, {of(0, 0, 1), on(0, 2), 1}, {of(0, 0, 1), on(-2, 0), 1}, {of(0, 0, 1), on(0, 0), 1},
		{monomial(-7, api.MaxDegree), on(-2, 2), 1}, {poly.Sub(monomial(1, api.MaxDegree), of(1)), on(-2, 2), 2}, {poly.Add(monomial(1, api.MaxDegree), of(1)), on(-2, 2), 0},
		{append(of(-1, 1), make(api.Poly, api.MaxDegree)...), on(-2, 2), 1},
	} {
		if got := mustCount(t, x.p, x.on); got != x.want {
			t.Error("Count is", got, "of", x)
		}
	}
}

// In a polynomial of a power of x, degrees fall by more than one from remainder
// to remainder. Its roots are the roots of the roots of the polynomial itself.
func TestCountOfPolynomialsOfPowers(t *testing.T) {
	for _, k := range knowns() {
		for n := 2; n < 6 && n*poly.Degree(k.poly()) <= api.MaxDegree/2; n++ {
			p, _ := poly.Compose(k.poly(), monomial(1, n))
			for _, b := range places()[7:] {
				right, _ := rational.Pow(b, n)
				left, _ := rational.Pow(rational.Neg(b), n)
				if got, want := mustCount(t, p, interval.Make(rational.Of(0), b)), k.count(rational.Of(0), right); got != want {
					t.Fatal("Count is", got, "and not", want, "of", p, "from 0 to", b)
				}
				low, high := rational.Of(0), left
				if n%2 == 1 {
					low, high = left, rational.Of(0)
				}
				if got, want := mustCount(t, p, interval.Make(rational.Neg(b), rational.Of(0))), k.count(low, high); got != want {
					t.Fatal("Count is", got, "and not", want, "of", p, "from 0 down to minus", b)
				}
			}
		}
	}
}

// A consequence of the chapter: the Count of an interval is the sum of the
// Counts of its halves, less 1 if its middle is a root.
func TestCountOfHalves(t *testing.T) {
	g := sample.Generator(2)
	for _, p := range append(sample.Polys(), g.Poly(9, 1), g.Poly(10, 2), g.Whole(20), g.Whole(30)) {
		if poly.Degree(p) < 0 {
			continue
		}
		for _, span := range sample.Intervals() {
			middle := interval.Mid(span)
			want := mustCount(t, p, interval.Make(span.Lo, middle)) + mustCount(t, p, interval.Make(middle, span.Hi))
			if rational.Sign(poly.Eval(p, middle)) == 0 {
				want--
			}
			got := mustCount(t, p, span)
			if got != want || got > poly.Degree(p) {
				t.Fatal("Count is", got, "and that of the halves", want, "of", p, span)
			}
		}
	}
}

func TestCountRefuses(t *testing.T) {
	for _, span := range []api.Interval{{}, on(-2, 2), on(2, -2), on(1, 1)} {
		for _, p := range tooGreat() {
			if count, err := sturm.Count(p, span); err != api.ErrDegree || count != 0 {
				t.Error("Count of a great degree", len(p), count, err)
			}
		}
		for _, p := range zeros() {
			if count, err := sturm.Count(p, span); err != api.ErrZero || count != 0 {
				t.Error("Count of zero", p, count, err)
			}
		}
	}
}

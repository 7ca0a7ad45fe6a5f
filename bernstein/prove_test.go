package bernstein_test

import (
	"testing"

	"dspcompiler/api"
	"dspcompiler/bernstein"
	"dspcompiler/internal/sample"
	"dspcompiler/interval"
	"dspcompiler/poly"
	"dspcompiler/rational"
)

// P7.2

// checkProve compares the result with its definition, and returns the greatest
// depth of a cell, or -1 if there is no certificate.
func checkProve(t *testing.T, p api.Poly, on api.Interval) int {
	t.Helper()
	s, err := bernstein.Prove(p, on)
	list, depth, ok := cells(p, on, api.MaxDepth)
	if !ok {
		if err != api.ErrProof || !sameSign(s, api.Sign{}) {
			t.Fatal("Prove returns", s, err, "and not ErrProof, of", p, on)
		}
		return -1
	}
	if err != api.OK || !sameSign(s, api.Sign{On: interval.Trim(on), Cells: list}) {
		t.Fatal("Prove returns", s, err, "and not the cells", list, "of", p, on)
	}
	if err := bernstein.Check(p, s); err != api.OK {
		t.Fatal("Check returns", err, "for the certificate of", p, on)
	}
	return depth
}

func TestProve(t *testing.T) {
	proved := 0
	operands(func(p api.Poly, on api.Interval) {
		checkProve(t, p, on)
		// Moved up, it is positive, though not always proved to be at once.
		low := bernstein.Range(p, on).Lo
		for _, part := range []int{1, 2, 3} {
			lifted := plus(p, rational.Mul(rational.Abs(low), rational.Frac(part, 2)))
			if checkProve(t, lifted, on) > 0 {
				proved++
			}
		}
	})
	if proved < 100 {
		t.Error("too few certificates have several cells:", proved)
	}
}

func TestProveExamples(t *testing.T) {
	quarter := plus(of(0, 0, 1), rational.Frac(1, 4))
	for _, x := range []struct {
		p    api.Poly
		on   api.Interval
		want []api.Interval
	}{
		{quarter, on(-4, 4), []api.Interval{on(-4, 0), on(0, 4)}}, {quarter, on(4, -4), []api.Interval{on(-4, 0), on(0, 4)}}, {quarter, on(0, 4), []api.Interval{on(0, 4)}},
		{of(3), on(8, -8), []api.Interval{on(-8, 8)}}, {of(3, 0), on(1, 1), []api.Interval{on(1, 1)}}, {of(1, 1), on(0, 9), []api.Interval{on(0, 9)}}, {of(0, 1), on(1, 9), []api.Interval{on(1, 9)}},
		{of(1), api.Interval{}, []api.Interval{on(0, 0)}}, {of(-3, 0, 1), on(8, 8), []api.Interval{on(8, 8)}},
		{quarter, on(-8, 8), []api.Interval{on(-8, 0), on(0, 8)}}, {plus(of(0, 0, 1), rational.Frac(2, 3)), on(-4, 8), []api.Interval{on(-4, 2), on(2, 8)}},
		{well(rational.Frac(1, 50)), on(0, 4), []api.Interval{on(0, 1), on(1, 2), on(2, 4)}},
	} {
		if got := mustProve(t, x.p, x.on); !sameSign(got, api.Sign{On: interval.Trim(x.on), Cells: x.want}) {
			t.Error("Prove returns", got, "of", x)
		}
	}
}

func TestProveFails(t *testing.T) {
	list := append(zeros(), of(-1), of(0, 0, 1), of(0, 1), of(1, -6, 9), of(-1, 3), of(1, -1), of(-1, 0, 1), of(1, 0, -2))
	for _, p := range list {
		for _, on := range []api.Interval{on(0, 4), on(4, 0), on(-4, 4), {Lo: rational.Of(-1), Hi: rational.Frac(7, 2)}} {
			if s, err := bernstein.Prove(p, on); err != api.ErrProof || !sameSign(s, api.Sign{}) {
				t.Error("Prove returns", s, err, "of", p, on)
			}
		}
	}
	for _, x := range []struct {
		p  api.Poly
		at int
	}{{of(0, 1), 0}, {of(-1), 3}, {of(-1, 1), 4}, {of(-1, 0, 1), 3}, {nil, 1}} {
		if s, err := bernstein.Prove(x.p, on(x.at, x.at)); err != api.ErrProof || !sameSign(s, api.Sign{}) {
			t.Error("Prove on a point returns", s, err, "of", x)
		}
	}
}

// The cells of wells that are less and less above 0 are smaller and smaller: the
// last ones with a certificate have the depth MaxDepth. The intervals lie so
// that the well is in their first cells, in their last ones and between others.
func TestDepth(t *testing.T) {
	for _, on := range []api.Interval{on(0, 4), on(-8, 4), on(4, 1), on(-1, 2), {Lo: rational.Of(-2), Hi: rational.Frac(10001, 30000)}, {Lo: rational.Frac(9999, 30000), Hi: rational.Of(9)}} {
		depths := map[int]bool{}
		for n := range 40 {
			depths[checkProve(t, well(power2(-n)), on)] = true
			depths[checkProve(t, well(rational.Neg(power2(-n))), on)] = true
		}
		for _, depth := range []int{-1, 1, api.MaxDepth - 1, api.MaxDepth} {
			if !depths[depth] {
				t.Error("no certificate has the depth", depth, on)
			}
		}
	}
}

func TestProveRefuses(t *testing.T) {
	for _, on := range []api.Interval{{}, on(0, 4), on(4, -4)} {
		for _, p := range tooGreat() {
			if s, err := bernstein.Prove(p, on); err != api.ErrDegree || !sameSign(s, api.Sign{}) {
				t.Error("Prove of a great degree", len(p), s, err)
			}
		}
	}
	for _, p := range []api.Poly{monomial(1, api.MaxDegree), append(monomial(1, api.MaxDegree), of(0, 0)...)} {
		mustProve(t, p, on(4, 8))
		mustProve(t, plus(p, rational.Of(9)), on(-4, 4))
	}
}

// If there is a certificate, no value is 0 or negative.
func TestProvedValues(t *testing.T) {
	operands(func(p api.Poly, on api.Interval) {
		if _, err := bernstein.Prove(p, on); err != api.OK {
			return
		}
		for i := range 9 {
			if rational.Sign(poly.Eval(p, within(on, rational.Frac(i, 8)))) <= 0 {
				t.Fatal("Prove of a polynomial that is not positive", p, on)
			}
		}
	})
}

// The sizes that the higher layers work with are done soon.
func TestProveOfGreatDegrees(t *testing.T) {
	p := chebyshev(api.MaxDegree)
	for _, c := range []api.Rat{rational.Of(2), rational.Frac(11, 10)} {
		for _, x := range []api.Interval{on(-4, 4), {Lo: rational.Frac(-97, 101), Hi: rational.Frac(997, 1009)}} {
			if depth := checkProve(t, plus(p, c), x); depth < 2 {
				t.Error("the depth is", depth)
			}
		}
	}
	if got := checkProve(t, plus(p, rational.Of(1)), on(-4, 4)); got != -1 {
		t.Error("a polynomial with roots is proved to be positive")
	}
	if got := mustBound(t, p, on(-4, 4), api.MaxDepth); !interval.Inside(on(-4, 4), got) || !interval.Inside(got, interval.Make(rational.Frac(-1001, 1000), rational.Frac(1001, 1000))) || sample.SameInterval(got, on(-4, 4)) {
		t.Error("the bound of a Chebyshev polynomial", got)
	}
}

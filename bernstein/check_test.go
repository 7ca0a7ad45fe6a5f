package bernstein_test

import (
	"slices"
	"testing"

	"dspcompiler/api"
	"dspcompiler/bernstein"
	"dspcompiler/internal/sample"
	"dspcompiler/rational"
)

// P7.3

// quarter is x^2 + 1/4, whose Bernstein coefficients from a to b are positive
// unless a b is -1/4 or less.
func quarter() api.Poly {
	return plus(of(0, 0, 1), rational.Frac(1, 4))
}

// sign returns the certificate with these cells.
func sign(on api.Interval, cells ...api.Interval) api.Sign {
	return api.Sign{On: on, Cells: cells}
}

// expectCheck fails the test if Check does not return the error wanted.
func expectCheck(t *testing.T, p api.Poly, s api.Sign, want api.Errno) {
	t.Helper()
	if got := bernstein.Check(p, s); got != want {
		t.Error("Check returns", got, "and not", want, "of", p, s)
	}
}

func TestCheckAccepts(t *testing.T) {
	for _, s := range []api.Sign{
		sign(on(-4, 4), on(-4, 0), on(0, 4)),
		sign(on(4, -4), on(-4, 0), on(0, 4)),
		sign(on(-4, 4), on(0, -4), on(4, 0)),
		sign(on(-4, 4), on(-4, -3), on(-3, 1), on(2, 1), on(2, 3), on(3, 4)),
		sign(on(-4, 4), on(-4, -4), on(-4, 0), on(0, 0), on(0, 0), on(0, 4), on(4, 4)),
		sign(on(-1, 1), on(-1, 1)), sign(on(-1, 3), on(-1, 3)), sign(on(0, 40), on(0, 40)),
		sign(on(3, 3), on(3, 3)), sign(on(3, 3), on(3, 3), on(3, 3)), sign(api.Interval{}, api.Interval{}), sign(on(0, 0), api.Interval{}, on(0, 0)),
		sign(sample.PaddedInterval(on(-4, 4)), sample.PaddedInterval(on(-4, 0)), sample.PaddedInterval(on(0, 4))),
		sign(api.Interval{Lo: rational.Of(-1), Hi: rational.Frac(1, 4)}, api.Interval{Lo: rational.Of(-1), Hi: rational.Frac(1, 5)}, api.Interval{Lo: rational.Frac(1, 5), Hi: rational.Frac(1, 4)}),
	} {
		expectCheck(t, quarter(), s, api.OK)
		expectCheck(t, sample.PaddedPoly(quarter()), s, api.OK)
	}
}

func TestCheckRefusesCells(t *testing.T) {
	for _, s := range []api.Sign{
		{}, sign(on(-4, 4)), sign(on(0, 0)), {On: on(3, 3), Cells: []api.Interval{}},
		// The cells begin or end at a wrong number.
		sign(on(-4, 4), on(0, 4)), sign(on(-4, 4), on(-4, 0)), sign(on(-4, 4), on(-8, 0), on(0, 4)), sign(on(-4, 4), on(-4, 0), on(0, 8)), sign(on(-4, 4), on(-3, 0), on(0, 4)), sign(on(-4, 4), on(-4, 0), on(0, 3)),
		sign(on(-4, 4), on(-4, 0), on(0, 4), on(4, 5)), sign(on(-4, 4), on(-5, -4), on(-4, 0), on(0, 4)), sign(on(3, 3), on(3, 4)), sign(on(3, 3), on(2, 3)), sign(on(3, 3), on(4, 4)), sign(on(3, 4), on(3, 3)), sign(on(3, 4), on(4, 4)),
		// There is a gap, or cells overlap, or they are not in order.
		sign(on(-4, 4), on(-4, 0), on(1, 4)), sign(on(-4, 4), on(-4, 0), on(-1, 4)), sign(on(-4, 4), on(0, 4), on(-4, 0)), sign(on(-4, 4), on(-4, 0), on(-4, 0), on(0, 4)), sign(on(-4, 4), on(-4, 0), on(0, 4), on(0, 4)),
		sign(on(-4, 4), on(-4, 0), on(2, 2), on(0, 4)), sign(on(-4, 4), on(-4, 0), on(0, 2), on(0, 2), on(2, 4)), sign(on(-4, 4), on(-4, 1), on(0, 4)),
		// A coefficient on a cell is negative or 0: in the middle, first, last.
		sign(on(-4, 4), on(-4, 4)), sign(on(-4, 4), on(-4, -2), on(-2, 2), on(2, 4)), sign(on(-4, 4), on(-4, 1), on(1, 4)), sign(on(-4, 4), on(-4, -1), on(-1, 4)), sign(on(-1, 4), on(-1, 4)), sign(on(-2, 2), on(2, -2)),
	} {
		expectCheck(t, quarter(), s, api.ErrProof)
	}
}

func TestCheckRefusesSigns(t *testing.T) {
	for _, x := range []struct {
		p api.Poly
		s api.Sign
	}{
		{of(-1), sign(on(0, 4), on(0, 4))}, {of(0, 1), sign(on(0, 4), on(0, 4))}, {of(0, 1), sign(on(-4, 4), on(-4, 0), on(0, 4))}, {of(1, -1), sign(on(0, 4), on(0, 4))}, {of(1, -1), sign(on(0, 4), on(0, 3), on(3, 4))},
		{of(1, -1), sign(on(0, 4), on(0, 3), on(3, 4), on(4, 4))}, {of(0, 1), sign(on(0, 4), on(0, 0), on(0, 4))}, {of(0, 1), sign(on(0, 0), on(0, 0))}, {of(-3, 1), sign(on(3, 3), on(3, 3))}, {of(0, 0, 1), sign(on(0, 4), on(0, 4))}, {of(0, 0, 1), sign(on(-4, 4), on(-4, 4))},
		{of(1, -2, 1), sign(on(2, 6), on(2, 3), on(3, 6))}, {of(1, -4, 4), sign(on(0, 4), on(0, 2), on(2, 4))},
	} {
		expectCheck(t, x.p, x.s, api.ErrProof)
	}
	for _, p := range zeros() {
		for _, s := range []api.Sign{{}, sign(on(0, 4), on(0, 4)), sign(on(0, 0), on(0, 0)), sign(on(0, 4), on(0, 2))} {
			expectCheck(t, p, s, api.ErrProof)
		}
	}
}

func TestCheckRefusesDegrees(t *testing.T) {
	good, bad := sign(on(4, 8), on(4, 8)), sign(on(4, 8), on(4, 7))
	for _, p := range tooGreat() {
		for _, s := range []api.Sign{good, bad, {}} {
			expectCheck(t, p, s, api.ErrDegree)
		}
	}
	for _, p := range []api.Poly{monomial(1, api.MaxDegree), append(monomial(2, api.MaxDegree), of(0, 0)...)} {
		expectCheck(t, p, good, api.OK)
		expectCheck(t, p, bad, api.ErrProof)
	}
}

// A certificate that is spoiled at one place is no longer accepted.
func TestCheckOfSpoiledCertificates(t *testing.T) {
	p := well(rational.Frac(1, 1000))
	s := mustProve(t, p, on(-4, 5))
	if len(s.Cells) < 4 {
		t.Fatal("too few cells", s)
	}
	spoil := func(change func(s *api.Sign)) {
		t.Helper()
		other := api.Sign{On: s.On, Cells: slices.Clone(s.Cells)}
		change(&other)
		expectCheck(t, p, other, api.ErrProof)
	}
	little := power2(-99)
	spoil(func(s *api.Sign) { s.On.Lo = rational.Sub(s.On.Lo, little) })
	spoil(func(s *api.Sign) { s.On.Lo = rational.Add(s.On.Lo, little) })
	spoil(func(s *api.Sign) { s.On.Hi = rational.Sub(s.On.Hi, little) })
	spoil(func(s *api.Sign) { s.On.Hi = rational.Add(s.On.Hi, little) })
	for i := range s.Cells {
		spoil(func(s *api.Sign) { s.Cells[i].Lo = rational.Sub(s.Cells[i].Lo, little) })
		spoil(func(s *api.Sign) { s.Cells[i].Lo = rational.Add(s.Cells[i].Lo, little) })
		spoil(func(s *api.Sign) { s.Cells[i].Hi = rational.Sub(s.Cells[i].Hi, little) })
		spoil(func(s *api.Sign) { s.Cells[i].Hi = rational.Add(s.Cells[i].Hi, little) })
		spoil(func(s *api.Sign) { s.Cells = slices.Delete(s.Cells, i, i+1) })
		spoil(func(s *api.Sign) { s.Cells = slices.Insert(s.Cells, i, s.Cells[i]) })
	}
	// It is no certificate of a polynomial that is a little too low.
	expectCheck(t, well(rational.Frac(-1, 1000)), s, api.ErrProof)
	expectCheck(t, well(rational.Of(0)), s, api.ErrProof)
	expectCheck(t, well(rational.Frac(1, 10)), s, api.OK)
}

// Check accepts whatever cover there is on whose cells all coefficients are
// positive: the cells need not be those that Prove finds.
func TestCheckOfOtherCovers(t *testing.T) {
	g := sample.Generator(3)
	accepted := 0
	for range 300 {
		p := plus(g.Whole(1+g.Below(5)), rational.Of(g.Below(9)))
		ends := []api.Rat{rational.Frac(g.Below(9)-4, 4)}
		for range 1 + g.Below(6) {
			ends = append(ends, rational.Add(ends[len(ends)-1], rational.Frac(g.Below(9), 12)))
		}
		s, want := sign(api.Interval{Lo: ends[0], Hi: ends[len(ends)-1]}), api.OK
		for i := range ends[1:] {
			cell := api.Interval{Lo: ends[i], Hi: ends[i+1]}
			s.Cells = append(s.Cells, cell)
			if !isPositiveOn(p, cell) {
				want = api.ErrProof
			}
		}
		expectCheck(t, p, s, want)
		if want == api.OK {
			accepted++
		}
	}
	if accepted < 30 || accepted > 270 {
		t.Error("too few certificates of one kind:", accepted)
	}
}

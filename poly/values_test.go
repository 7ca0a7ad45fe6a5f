package poly_test

import (
	"testing"

	"dspcompiler/api"
	"dspcompiler/internal/sample"
	"dspcompiler/interval"
	"dspcompiler/poly"
	"dspcompiler/rational"
)

// numbers are numbers in forms of all kinds.
func numbers() []api.Rat {
	g := sample.Generator(2)
	return append(sample.Rats()[:60], rational.Frac(-7, 3), rational.Of(1), g.Rat(1), g.Rat(2), g.Rat(3))
}

// P5.2

func TestEval(t *testing.T) {
	for _, p := range polys() {
		for _, a := range numbers() {
			expectNumber(t, "Eval", poly.Eval(p, a), at(p, a), p, a)
		}
	}
	expectNumber(t, "Eval", poly.Eval(of(6, -5, 1), rational.Of(3)), rational.Of(0))
	expectNumber(t, "Eval of 0", poly.Eval(nil, rational.Of(3)), rational.Of(0))
	expectNumber(t, "Eval at 0", poly.Eval(of(6, -5, 1), api.Rat{}), rational.Of(6))
}

// horner is the definition of Enclose.
func horner(p api.Poly, on api.Interval) api.Interval {
	value := interval.Make(rational.Of(0), rational.Of(0))
	for i := len(p) - 1; i >= 0; i-- {
		value = interval.Mul(value, on)
		value = interval.Add(value, interval.Make(p[i], p[i]))
	}
	return value
}

func TestEnclose(t *testing.T) {
	for _, p := range polys() {
		for _, on := range sample.Intervals() {
			if got := poly.Enclose(p, on); !interval.Valid(got) || !sample.SameInterval(got, horner(p, on)) {
				t.Fatal("Enclose", p, on, got)
			}
		}
	}
}

func TestEncloseExamples(t *testing.T) {
	for _, x := range []struct {
		p              api.Poly
		lo, hi         int
		wantLo, wantHi int
	}{
		{of(0, -1, 1), 0, 1, -1, 0}, {of(0, -1, 1), 1, 0, -1, 0}, {of(), 1, 2, 0, 0}, {of(7), 1, 2, 7, 7}, {of(0, 0, 1), -1, 1, -1, 1},
		{of(0, 0, 1), -1, 2, -2, 4}, {of(1, 2, 3), -1, 1, -4, 6}, {of(3, 0, 2, 0), 2, 2, 11, 11},
	} {
		got := poly.Enclose(x.p, interval.Make(rational.Of(x.lo), rational.Of(x.hi)))
		if want := interval.Make(rational.Of(x.wantLo), rational.Of(x.wantHi)); !sample.SameInterval(got, want) {
			t.Error("Enclose", x.p, x.lo, x.hi, got)
		}
	}
}

// A consequence of the chapter: Enclose contains the values at all numbers.
func TestEncloseContainsValues(t *testing.T) {
	for _, p := range polys() {
		for _, on := range sample.Intervals() {
			bounds := poly.Enclose(p, on)
			for _, x := range []api.Rat{on.Lo, on.Hi, interval.Mid(on), rational.Add(rational.Mul(on.Lo, rational.Frac(1, 3)), rational.Mul(on.Hi, rational.Frac(2, 3)))} {
				if !interval.Contains(bounds, at(p, x)) {
					t.Fatal("Enclose does not contain a value", p, on, x)
				}
			}
		}
	}
}

// P5.3, Compose

func TestCompose(t *testing.T) {
	pairs(func(p, q api.Poly) {
		want := of()
		for i, c := range p {
			factors := []api.Poly{{c}}
			for range i {
				factors = append(factors, q)
			}
			want = plus(want, times(factors...))
		}
		got, err := poly.Compose(p, q)
		if err != api.OK {
			t.Fatal("Compose", p, q, err)
		}
		expect(t, "Compose", got, want, p, q)
	})
}

func TestComposeLimits(t *testing.T) {
	for _, x := range []struct {
		p, q int
		want api.Errno
	}{
		{1, 192, api.OK}, {192, 1, api.OK}, {1, 193, api.ErrDegree}, {193, 1, api.ErrDegree},
		{48, 4, api.OK}, {4, 48, api.OK}, {16, 12, api.OK}, {13, 15, api.ErrDegree}, {14, 14, api.ErrDegree},
		{300, 0, api.OK}, {0, 300, api.OK}, {0, 0, api.OK},
	} {
		// Zeros at the ends do not add to the degrees.
		p, q := append(zeros(x.p), of(2, 0, 0)...), append(zeros(x.q), of(1, 0)...)
		got, err := poly.Compose(p, q)
		if x.want != api.OK {
			refuse(t, "Compose", err, x.want, got)
			continue
		}
		if err != api.OK {
			t.Fatal("Compose", x, err)
		}
		expect(t, "Compose", got, append(zeros(x.p*x.q), of(2)...), x)
	}
}

func TestComposeWithZero(t *testing.T) {
	for _, p := range []api.Poly{nil, of(0), of(5), of(5, 1, 2)} {
		for _, zero := range []api.Poly{nil, of(0, 0)} {
			got, err := poly.Compose(p, zero)
			if err != api.OK {
				t.Fatal("Compose with zero", p, err)
			}
			expect(t, "Compose with zero", got, p[:min(len(p), 1)], p)
			got, err = poly.Compose(zero, p)
			if err != api.OK || len(got) != 0 {
				t.Fatal("Compose of zero", p, got, err)
			}
		}
	}
	long := append(zeros(500), of(1)...)
	if got, err := poly.Compose(nil, long); err != api.OK || len(got) != 0 {
		t.Error("Compose of zero and a long polynomial", got, err)
	}
	if got, err := poly.Compose(long, nil); err != api.OK || len(got) != 0 {
		t.Error("Compose of a long polynomial and zero", got, err)
	}
}

package common_test

import (
	"testing"

	"dspcompiler/api"
	"dspcompiler/internal/common"
	"dspcompiler/internal/sample"
	"dspcompiler/nat"
	"dspcompiler/rational"
)

// leastMultiple returns the least common multiple of the denominators.
func leastMultiple(numbers []api.Rat) []uint32 {
	z := []uint32{1}
	for _, a := range numbers {
		den := rational.Trim(a).Den
		part, _, _ := nat.DivMod(den, nat.Gcd(z, den))
		z = nat.Mul(z, part)
	}
	return z
}

func TestDenominator(t *testing.T) {
	lists := [][]api.Rat{nil, {}, sample.Rats()}
	for _, p := range sample.Polys() {
		lists = append(lists, p)
	}
	g := sample.Generator(1)
	for n := range 40 {
		lists = append(lists, g.Poly(n%7, 1+n%3))
	}
	for _, list := range lists {
		guarded := sample.GuardedPoly(list)
		got := common.Denominator(guarded)
		if want := (api.Rat{Num: api.Int{Mag: leastMultiple(list)}, Den: []uint32{1}}); !sample.SameRat(got, want) {
			t.Fatal("Denominator is", got, "and not", want, "of", list)
		}
		sample.Spoil(got.Num.Mag)
		if !sample.UntouchedPoly(guarded, list) {
			t.Fatal("an argument was changed", list)
		}
	}
}

func TestDenominatorExamples(t *testing.T) {
	for _, x := range []struct {
		numbers []api.Rat
		want    int
	}{
		{nil, 1}, {[]api.Rat{{}}, 1}, {[]api.Rat{rational.Of(5)}, 1}, {[]api.Rat{rational.Frac(-5, 6)}, 6},
		{[]api.Rat{rational.Frac(1, 6), rational.Frac(-3, 4)}, 12}, {[]api.Rat{rational.Frac(1, 4), rational.Frac(1, 2), {}, rational.Frac(2, 9)}, 36},
		{[]api.Rat{sample.PaddedRat(rational.Frac(2, 3))}, 3},
	} {
		if got := common.Denominator(x.numbers); !sample.SameRat(got, rational.Of(x.want)) {
			t.Error("Denominator is", got, "and not", x.want, "of", x.numbers)
		}
	}
}

package interval_test

import (
	"slices"
	"testing"

	"dspcompiler/api"
	"dspcompiler/internal/sample"
	"dspcompiler/interval"
	"dspcompiler/rational"
)

// results calls every function that returns intervals or numbers, and returns
// these, numbers as points.
func results(a, b api.Interval) []api.Interval {
	quotient, _ := interval.Div(a, b)
	meet, _ := interval.Meet(a, b)
	list := []api.Interval{
		interval.Trim(a), interval.Make(a.Lo, a.Hi), interval.Make(a.Hi, b.Lo), interval.Make(a.Lo, a.Lo), interval.Add(a, b), interval.Sub(a, b),
		interval.Mul(a, b), interval.Square(a), quotient, meet, interval.Hull(a, b), {Lo: interval.Width(a), Hi: interval.Mid(a)},
	}
	for _, bits := range []int{0, 1, 40} {
		rounded, _ := interval.Round(a, bits)
		list = append(list, rounded)
	}
	return list
}

// lists returns the lists of digits of intervals, not copies of them.
func lists(intervals []api.Interval) [][]uint32 {
	var ends []api.Rat
	for _, a := range intervals {
		ends = append(ends, a.Lo, a.Hi)
	}
	return sample.Lists(ends)
}

// operands are intervals in forms of all kinds, and valid ones.
func operands() []api.Interval {
	list := sample.Intervals()
	g := sample.Generator(5)
	for n := range 5 {
		list = append(list, g.Interval(n), interval.Trim(g.Interval(n)))
	}
	return list
}

// R3: neither the arguments nor the memory behind them are modified, and no
// result shares memory with an argument or with another result.
func TestMemory(t *testing.T) {
	for _, a := range operands() {
		for _, b := range operands() {
			x, y := sample.GuardedInterval(a), sample.GuardedInterval(b)
			got := results(x, y)
			interval.Valid(x)
			interval.Sign(x)
			interval.Inside(x, y)
			interval.Contains(x, y.Hi)
			if !sample.Apart(lists(got)) {
				t.Fatal("two results share memory", a, b)
			}
			if !sample.UntouchedInterval(x, a) || !sample.UntouchedInterval(y, b) {
				t.Fatal("an argument was changed", a, b, x, y)
			}
		}
	}
}

// R3: the ends of a result share no memory when they are equal either, nor
// when the ends of the arguments are one number in one place.
func TestMemoryOfPoints(t *testing.T) {
	for _, n := range []int{-1, 0, 1, 3} {
		x := rational.Frac(n, 2)
		point := api.Interval{Lo: x, Hi: x}
		for _, a := range results(point, point) {
			if !sample.Apart(lists([]api.Interval{a})) {
				t.Error("both ends share memory", n, a)
			}
		}
		if !sample.SameRat(x, rational.Frac(n, 2)) {
			t.Error("a result shares memory with an argument", n, x)
		}
	}
}

// R3: an argument may be given twice.
func TestSameArgumentTwice(t *testing.T) {
	for _, a := range operands() {
		alike, apart := results(a, a), results(sample.GuardedInterval(a), sample.GuardedInterval(a))
		if !slices.EqualFunc(alike, apart, sample.SameInterval) {
			t.Fatal("results of one interval and of two equal ones differ", a)
		}
	}
}

// R4: results depend on the sets that the arguments denote.
func TestFormsOfArguments(t *testing.T) {
	for _, a := range operands() {
		if interval.Valid(sample.PaddedInterval(a)) {
			t.Fatal("the other form of an interval is valid", a)
		}
		for _, b := range operands() {
			plain, other := results(interval.Trim(a), interval.Trim(b)), results(sample.PaddedInterval(a), sample.PaddedInterval(b))
			for i := range plain {
				// Make has no intervals as arguments.
				if isMake := 1 <= i && i <= 3; !isMake && !sample.SameInterval(plain[i], other[i]) {
					t.Fatal("the form of an argument changes a result", a, b, plain[i], other[i])
				}
			}
			x, y := interval.Trim(a), interval.Trim(b)
			if interval.Sign(sample.PaddedInterval(a)) != interval.Sign(x) || interval.Inside(sample.PaddedInterval(a), sample.PaddedInterval(b)) != interval.Inside(x, y) || interval.Contains(sample.PaddedInterval(a), sample.PaddedRat(b.Lo)) != interval.Contains(x, rational.Trim(b.Lo)) {
				t.Fatal("the form of an argument changes an answer", a, b)
			}
		}
	}
}

// The consequences of the chapter: larger intervals have larger results.
func TestInclusion(t *testing.T) {
	g := sample.Generator(6)
	for range 1000 {
		a, b := g.Interval(g.Below(4)), g.Interval(g.Below(4))
		wideA, wideB := interval.Hull(a, g.Interval(g.Below(4))), interval.Hull(b, g.Interval(g.Below(4)))
		narrow, wide := results(a, b), results(wideA, wideB)
		// Sums, differences, products and squares; the hull; the roundings.
		for _, i := range []int{0, 4, 5, 6, 7, 10, 12, 13, 14} {
			if !interval.Inside(narrow[i], wide[i]) {
				t.Fatal("a larger interval has a lesser result", i, a, b, wideA, wideB)
			}
		}
		outer, err := interval.Div(wideA, wideB)
		if inner, e := interval.Div(a, b); err == api.OK && (e != api.OK || !interval.Inside(inner, outer)) {
			t.Fatal("Div of larger intervals", a, b, wideA, wideB)
		}
		outer, _ = interval.Meet(wideA, wideB)
		if inner, ok := interval.Meet(a, b); ok && !interval.Inside(inner, outer) {
			t.Fatal("Meet of larger intervals", a, b, wideA, wideB)
		}
	}
}

// The square of an interval is a part of its product with itself, and that of
// a point is the product of the point with itself.
func TestSquareAndProduct(t *testing.T) {
	for _, a := range operands() {
		square, product := interval.Square(a), interval.Mul(a, a)
		if !interval.Inside(square, product) {
			t.Error("the square is not in the product", a, square, product)
		}
		if lo, hi := bounds(a); rational.Compare(lo, hi) == 0 && !sample.SameInterval(square, product) {
			t.Error("the square of a point", a, square, product)
		}
	}
}

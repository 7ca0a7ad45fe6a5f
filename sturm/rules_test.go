package sturm_test

import (
	"testing"

	"dspcompiler/api"
	"dspcompiler/internal/sample"
	"dspcompiler/interval"
	"dspcompiler/poly"
	"dspcompiler/sturm"
)

// answers are all results but intervals.
type answers struct {
	count, after          int
	nonnegative, positive bool
	errors                [5]api.Errno
}

// results calls every function.
func results(p api.Poly, on api.Interval, bits int) (answers, []api.Interval) {
	var z answers
	var list []api.Interval
	z.count, z.errors[0] = sturm.Count(p, on)
	z.after, z.errors[1] = sturm.SignAfter(p, on.Lo)
	z.nonnegative, z.errors[2] = sturm.Nonnegative(p, on)
	z.positive, z.errors[3] = sturm.Positive(p, on)
	list, z.errors[4] = sturm.Isolate(p, on, bits)
	return z, list
}

// operands calls a function with polynomials and intervals of all kinds, among
// them ones whose roots are ends of the intervals.
func operands(f func(p api.Poly, on api.Interval)) {
	polys := append(sample.Polys(), of(0, -1, 0, 1), of(-2, 0, 1), of(6, 5, -2, -1), of(1, -2, 1))
	for _, p := range polys {
		for _, on := range sample.Intervals() {
			f(p, on)
		}
	}
}

// lists returns the lists of digits of intervals, not copies of them.
func lists(intervals []api.Interval) [][]uint32 {
	var z [][]uint32
	for _, x := range intervals {
		z = append(z, sample.Lists([]api.Rat{x.Lo, x.Hi})...)
	}
	return z
}

// R3: neither the arguments nor the memory behind them are modified, and no
// result shares memory with an argument or with another result.
func TestMemory(t *testing.T) {
	operands(func(p api.Poly, on api.Interval) {
		for _, bits := range []int{0, 5} {
			pCopy, onCopy := sample.GuardedPoly(p), sample.GuardedInterval(on)
			_, list := results(pCopy, onCopy, bits)
			if !sample.Apart(lists(list)) {
				t.Fatal("two results, or two parts of one, share memory", p, on)
			}
			if !sample.UntouchedPoly(pCopy, p) || !sample.UntouchedInterval(onCopy, on) {
				t.Fatal("an argument was changed", p, on)
			}
		}
	})
}

// R3: the same holds for arguments in their canonical form, whose ends are
// easily returned as they are.
func TestMemoryOfValidOperands(t *testing.T) {
	operands(func(p api.Poly, on api.Interval) {
		p, on = poly.Trim(p), interval.Trim(on)
		_, list := results(p, on, 2)
		if !sample.Apart(append(append(lists(list), sample.Lists(p)...), sample.Lists([]api.Rat{on.Lo, on.Hi})...)) {
			t.Fatal("a result shares memory")
		}
	})
}

// R4, R5: results depend on the values of the arguments alone.
func TestFormsOfArguments(t *testing.T) {
	operands(func(p api.Poly, on api.Interval) {
		plain, plainList := results(poly.Trim(p), interval.Trim(on), 3)
		other, otherList := results(sample.PaddedPoly(p), sample.PaddedInterval(on), 3)
		// SignAfter alone depends on an end itself, which is another one here.
		other.after, _ = sturm.SignAfter(sample.PaddedPoly(p), sample.PaddedRat(interval.Trim(on).Lo))
		if plain != other || len(plainList) != len(otherList) {
			t.Fatal("the form of an argument changes a result", p, on, plain, other)
		}
		for i := range plainList {
			if !sample.SameInterval(plainList[i], otherList[i]) {
				t.Fatal("the form of an argument changes an interval", p, on)
			}
		}
	})
}

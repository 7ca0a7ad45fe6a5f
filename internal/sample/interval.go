package sample

import (
	"dspcompiler/api"
)

// Interval returns an interval whose ends are made of n digits, in either
// order. Every fourth one is a point.
func (g *Generator) Interval(n int) api.Interval {
	a := api.Interval{Lo: g.Rat(n), Hi: g.Rat(n)}
	if g.Below(4) == 0 {
		a.Hi = GuardedRat(a.Lo)
	}
	return a
}

// Intervals are intervals in forms of all kinds: with their ends in either
// order, points, and with ends that are not in lowest terms. The ends are
// close to one another and to 0, so that intervals touch and overlap.
func Intervals() []api.Interval {
	ends := []api.Rat{
		{}, ratOf(true, []uint32{0}, []uint32{1}), ratOf(false, []uint32{1}, []uint32{1}), ratOf(false, []uint32{4, 0}, []uint32{4}),
		ratOf(true, []uint32{1}, []uint32{1}), ratOf(true, []uint32{2}, []uint32{6}), ratOf(true, []uint32{0, 1}, []uint32{3}), ratOf(false, []uint32{5}, []uint32{2}),
	}
	var z []api.Interval
	for _, a := range ends {
		for _, b := range ends {
			z = append(z, api.Interval{Lo: GuardedRat(a), Hi: GuardedRat(b)})
		}
	}
	return z
}

// GuardedInterval returns a copy of an interval whose lists are guarded.
func GuardedInterval(a api.Interval) api.Interval {
	return api.Interval{Lo: GuardedRat(a.Lo), Hi: GuardedRat(a.Hi)}
}

// UntouchedInterval reports whether an interval that was made by
// GuardedInterval is still equal to a, and the memory behind it is as it was.
func UntouchedInterval(guarded, a api.Interval) bool {
	return UntouchedRat(guarded.Lo, a.Lo) && UntouchedRat(guarded.Hi, a.Hi)
}

// PaddedInterval returns another form of the same interval: the ends are
// exchanged and padded.
func PaddedInterval(a api.Interval) api.Interval {
	return api.Interval{Lo: PaddedRat(a.Hi), Hi: PaddedRat(a.Lo)}
}

// SameInterval reports whether two intervals are equal as plain data.
func SameInterval(a, b api.Interval) bool {
	return SameRat(a.Lo, b.Lo) && SameRat(a.Hi, b.Hi)
}

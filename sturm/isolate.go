package sturm

import (
	"dspcompiler/api"
	"dspcompiler/interval"
	"dspcompiler/rational"
)

// search is a search for the roots of the first polynomial of a chain.
type search struct {
	evaluate evaluator // that of the whole chain
	test     evaluator // that of the first polynomial, where its sign is enough
	width    api.Rat   // the greatest width of what is found
	found    []api.Interval
}

// isolate returns an interval for each root of the first polynomial of a chain,
// of at most the width 2^(-bits).
func isolate(c chain, on api.Interval, bits int) []api.Interval {
	on, ok := interval.Meet(on, reach(c[0]))
	if !ok {
		return nil
	}
	halves := powers(rational.Frac(1, 2), bits+1)
	s := search{evaluate: c.evaluate, test: c[:1].evaluate, width: halves[bits]}
	a, b := ends(s.evaluate, on)
	if a.sign == 0 {
		s.find(a, a)
	}
	s.between(a, b)
	return s.found
}

// reach returns an interval that contains all roots of a polynomial (Cauchy's
// bound): a search does not begin farther away, however long its interval is.
func reach(p api.Poly) api.Interval {
	greatest := rational.Of(0)
	for _, c := range p {
		if size := rational.Abs(c); rational.Compare(size, greatest) > 0 {
			greatest = size
		}
	}
	ratio := rational.Mul(greatest, inverse(p[len(p)-1]))
	bound, _ := rational.Up(rational.Add(ratio, rational.Of(1)), 0)
	return interval.Make(rational.Neg(bound), bound)
}

// between finds the roots that are greater than a and at most b. No interval of
// theirs begins at a root: so a root at which two intervals meet, or which is a
// itself, is not found twice.
func (s *search) between(a, b place) {
	count := rootsAfter(a, b)
	switch {
	case count == 0:
	case count == 1 && a.sign != 0:
		s.narrow(a, b)
	default:
		m := s.evaluate(middle(a, b))
		s.between(a, m)
		s.between(m, b)
	}
}

// narrow finds the only root that is greater than a and at most b, if a is none:
// in front of it the first polynomial has the sign that it has at a.
func (s *search) narrow(a, b place) {
	for rational.Compare(rational.Sub(b.at, a.at), s.width) > 0 {
		if m := s.test(middle(a, b)); m.sign == a.sign {
			a = m
		} else {
			b = m
		}
	}
	s.find(a, b)
}

// find adds an interval to those that are found.
func (s *search) find(a, b place) {
	s.found = append(s.found, interval.Make(a.at, b.at))
}

// middle returns the number in the middle of two places.
func middle(a, b place) api.Rat {
	return interval.Mid(api.Interval{Lo: a.at, Hi: b.at})
}

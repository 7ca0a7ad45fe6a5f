package sturm_test

import (
	"testing"

	"dspcompiler/api"
	"dspcompiler/internal/sample"
	"dspcompiler/interval"
	"dspcompiler/poly"
	"dspcompiler/rational"
	"dspcompiler/sturm"
)

// of returns the polynomial with integers as coefficients, from the power 0 on.
func of(c ...int) api.Poly {
	p := api.Poly{}
	for _, n := range c {
		p = append(p, rational.Of(n))
	}
	return p
}

// on returns the interval from a / 2 to b / 2, with its ends in this order.
func on(a, b int) api.Interval {
	return api.Interval{Lo: rational.Frac(a, 2), Hi: rational.Frac(b, 2)}
}

// monomial returns c times the n-th power, for n of any size.
func monomial(c, n int) api.Poly {
	list := make([]int, n+1)
	list[n] = c
	return of(list...)
}

// chebyshev returns the Chebyshev polynomial of degree n, whose n roots lie
// between -1 and 1.
func chebyshev(n int) api.Poly {
	p, q := of(1), of(0, 1)
	for range n {
		p, q = q, poly.Sub(poly.Mul(of(0, 2), q), p)
	}
	return p
}

// width returns 2^(-bits).
func width(bits int) api.Rat {
	z := rational.Of(1)
	for range bits {
		z = rational.Mul(z, rational.Frac(1, 2))
	}
	return z
}

// factor is a power of a polynomial of degree 1 or 2 whose roots are known
// without a chain. Its leading coefficient is positive, and if it is quadratic,
// it has no rational root.
type factor struct {
	base  api.Poly
	power int
}

// sign returns the sign of the base at x.
func (f factor) sign(x api.Rat) int {
	return rational.Sign(poly.Eval(f.base, x))
}

// upTo returns the number of different roots that are at most x.
func (f factor) upTo(x api.Rat) int {
	sign := f.sign(x)
	if len(f.base) == 2 {
		if sign < 0 {
			return 0
		}
		return 1
	}
	isReal := rational.Compare(rational.Mul(f.base[1], f.base[1]), rational.Mul(rational.Of(4), rational.Mul(f.base[0], f.base[2]))) > 0
	isRight := rational.Sign(poly.Eval(poly.Derivative(f.base), x)) > 0
	switch {
	case sign < 0:
		return 1
	case isReal && isRight:
		return 2
	default:
		return 0
	}
}

// known is a number times powers of different polynomials.
type known struct {
	lead    api.Rat
	factors []factor
}

// poly returns the product.
func (k known) poly() api.Poly {
	p := api.Poly{k.lead}
	for _, f := range k.factors {
		for range f.power {
			p = poly.Mul(p, f.base)
		}
	}
	return p
}

// count returns the number of different roots from a to b, both included.
func (k known) count(a, b api.Rat) int {
	count := 0
	for _, f := range k.factors {
		count += f.upTo(b) - f.upTo(a)
		if f.sign(a) == 0 {
			count++
		}
	}
	return count
}

// turns reports whether there is a change of sign between a and b.
func (k known) turns(a, b api.Rat) bool {
	for _, f := range k.factors {
		count := f.upTo(b) - f.upTo(a)
		if f.sign(b) == 0 {
			count--
		}
		if f.power%2 == 1 && count > 0 {
			return true
		}
	}
	return false
}

// after returns the sign behind x: from plus infinity down to x, it changes at
// every root of an odd power.
func (k known) after(x api.Rat) int {
	sign := rational.Sign(k.lead)
	for _, f := range k.factors {
		if f.power*(f.upTo(rational.Of(1<<40))-f.upTo(x))%2 == 1 {
			sign = -sign
		}
	}
	return sign
}

// bases are the polynomials whose powers make the known ones: some roots are
// near to one another, some are 0, and some polynomials have none.
func bases() []api.Poly {
	return []api.Poly{
		of(0, 1), of(-1, 1), of(1, 1), of(-1, 2), of(3, 2), of(-2, 3), of(-100, 1), of(-99, 100), {rational.Frac(2, 7), rational.Frac(1, 3)},
		of(-2, 0, 1), of(-1, 0, 2), of(-99, 0, 200), of(-1, -1, 1), of(1, 0, 1), of(1, 1, 1), of(1, 0, 1000000), {rational.Frac(-1, 3), rational.Of(0), rational.Frac(5, 2)},
	}
}

// knowns are products of up to four powers of bases.
func knowns() []known {
	list := bases()
	g := sample.Generator(1)
	z := []known{{rational.Of(3), nil}, {rational.Frac(-1, 2), nil}}
	for range 40 {
		k := known{lead: rational.Frac(g.Below(9)*2-9, 1+g.Below(5))}
		first, step := g.Below(len(list)), 1+g.Below(len(list)-1)
		for i := range 1 + g.Below(4) {
			k.factors = append(k.factors, factor{list[(first+i*step)%len(list)], 1 + g.Below(3)})
		}
		z = append(z, k)
	}
	return z
}

// places are numbers from low to high, among them all rational roots of bases.
func places() []api.Rat {
	return []api.Rat{
		rational.Of(-200), rational.Of(-2), rational.Frac(-3, 2), rational.Of(-1), rational.Frac(-6, 7), rational.Frac(-707, 1000), rational.Frac(-1, 1000),
		rational.Of(0), rational.Frac(1, 2), rational.Frac(2, 3), rational.Frac(71, 100), rational.Frac(99, 100), rational.Of(1), rational.Frac(17, 12), rational.Of(100), rational.Of(101),
	}
}

// spans calls a function with numbers a and b, of which a is at most b.
func spans(f func(a, b api.Rat)) {
	list := places()
	for i := range list {
		for j := i; j < len(list); j++ {
			f(list[i], list[j])
		}
	}
}

// mustCount returns the number of roots.
func mustCount(t *testing.T, p api.Poly, on api.Interval) int {
	t.Helper()
	count, err := sturm.Count(p, on)
	if err != api.OK {
		t.Fatal("Count", p, on, err)
	}
	return count
}

// tooGreat are polynomials of a degree that is too great.
func tooGreat() []api.Poly {
	return []api.Poly{monomial(1, api.MaxDegree+1), append(monomial(-2, api.MaxDegree+1), of(0, 0)...), monomial(1, 500)}
}

// zeros are forms of the zero polynomial, also ones that seem to have a degree
// that is too great.
func zeros() []api.Poly {
	return []api.Poly{nil, {}, of(0), {{}}, of(0, 0, 0), make(api.Poly, api.MaxDegree+2), monomial(0, api.MaxDegree+9)}
}

// The helpers use no chain, so that chains can be compared with them.
func TestHelpers(t *testing.T) {
	golden := factor{of(-1, -1, 1), 1}
	for i, want := range []int{0, 0, 1, 1, 2} {
		if got := golden.upTo(rational.Of(i - 2)); got != want {
			t.Error("roots of x^2 - x - 1 up to", i-2, got)
		}
	}
	k := known{rational.Of(-2), []factor{{of(-1, 1), 3}, {of(-2, 0, 1), 2}, {of(1, 0, 1), 1}}}
	if poly.Degree(k.poly()) != 9 || rational.Sign(poly.Eval(k.poly(), rational.Of(1))) != 0 {
		t.Error("the product", k.poly())
	}
	if k.count(rational.Of(1), rational.Of(2)) != 2 || k.count(rational.Of(1), rational.Of(1)) != 1 || k.count(rational.Of(-2), rational.Of(0)) != 1 {
		t.Error("the number of known roots")
	}
	if k.turns(rational.Of(1), rational.Of(9)) || k.turns(rational.Of(-9), rational.Of(1)) || !k.turns(rational.Of(0), rational.Of(9)) {
		t.Error("the known changes of sign")
	}
	if k.after(rational.Of(1)) != -1 || k.after(rational.Of(0)) != 1 || k.after(rational.Of(-9)) != 1 {
		t.Error("the known signs")
	}
	for i, x := range places()[1:] {
		if rational.Compare(places()[i], x) >= 0 {
			t.Error("the places do not ascend", x)
		}
	}
	for _, p := range bases() {
		if len(p) == 2 {
			found := false
			for _, x := range places() {
				found = found || factor{p, 1}.sign(x) == 0
			}
			if !found {
				t.Error("no place is the root of", p)
			}
		}
	}
	if interval.Valid(on(2, -2)) || rational.Compare(width(3), rational.Frac(1, 8)) != 0 {
		t.Error("intervals and widths")
	}
}

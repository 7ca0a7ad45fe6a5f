package poly_test

import (
	"testing"

	"dspcompiler/api"
	"dspcompiler/internal/sample"
	"dspcompiler/poly"
	"dspcompiler/rational"
)

// of returns the polynomial with integers as coefficients, from the power 0 on.
func of(c ...int) api.Poly {
	p := api.Poly{}
	for _, n := range c {
		p = append(p, rational.Of(n))
	}
	return p
}

// root returns the polynomial x - n.
func root(n int) api.Poly {
	return of(-n, 1)
}

// canonical is the definition of the valid polynomial with the same value.
func canonical(p api.Poly) api.Poly {
	z := api.Poly{}
	for i, c := range p {
		if rational.Sign(c) != 0 {
			z = append(z, zeros(i-len(z))...)
			z = append(z, rational.Trim(c))
		}
	}
	return z
}

// zeros returns n coefficients 0.
func zeros(n int) api.Poly {
	return of(make([]int, n)...)
}

// isValid is the definition of a valid polynomial.
func isValid(p api.Poly) bool {
	for _, c := range p {
		if !rational.Valid(c) {
			return false
		}
	}
	return len(p) == 0 || rational.Sign(p[len(p)-1]) != 0
}

// degree is the definition of the degree.
func degree(p api.Poly) int {
	return len(canonical(p)) - 1
}

// plus returns the sum, term by term.
func plus(p, q api.Poly) api.Poly {
	z := zeros(max(len(p), len(q)))
	for i, c := range p {
		z[i] = rational.Add(z[i], c)
	}
	for i, c := range q {
		z[i] = rational.Add(z[i], c)
	}
	return canonical(z)
}

// multiple returns the product of p and c times the n-th power.
func multiple(p api.Poly, c api.Rat, n int) api.Poly {
	z := zeros(n)
	for _, a := range p {
		z = append(z, rational.Mul(a, c))
	}
	return canonical(z)
}

// times returns the product, term by term.
func times(factors ...api.Poly) api.Poly {
	z := of(1)
	for _, p := range factors {
		next := of()
		for i, c := range p {
			next = plus(next, multiple(z, c, i))
		}
		z = next
	}
	return z
}

// at returns the value as the sum of coefficients times powers.
func at(p api.Poly, x api.Rat) api.Rat {
	sum, power := rational.Of(0), rational.Of(1)
	for _, c := range p {
		sum = rational.Add(sum, rational.Mul(c, power))
		power = rational.Mul(power, x)
	}
	return sum
}

// rest returns the remainder of p and q, which is not zero, by taking away
// multiples of q.
func rest(p, q api.Poly) api.Poly {
	p, q = canonical(p), canonical(q)
	for len(p) >= len(q) {
		c, _ := rational.Div(rational.Neg(p[len(p)-1]), q[len(q)-1])
		p = plus(p, multiple(q, c, len(p)-len(q)))
	}
	return p
}

// coprime reports whether p and q, one of which is not zero, have no common
// divisor but numbers.
func coprime(p, q api.Poly) bool {
	for degree(q) >= 0 {
		p, q = q, rest(p, q)
	}
	return degree(p) == 0
}

// isMonic reports whether the leading coefficient is 1.
func isMonic(p api.Poly) bool {
	return len(p) > 0 && rational.Compare(p[len(p)-1], rational.Of(1)) == 0
}

// polys are polynomials in forms of all kinds and of many degrees.
func polys() []api.Poly {
	list := sample.Polys()
	g := sample.Generator(1)
	for n := range 7 {
		list = append(list, g.Poly(n, 1+n%2), g.Whole(n))
	}
	return list
}

// pairs calls a function with pairs of all polynomials.
func pairs(f func(p, q api.Poly)) {
	for _, p := range polys() {
		for _, q := range polys() {
			f(p, q)
		}
	}
}

// expect fails the test if a result is not valid or not the polynomial wanted.
func expect(t *testing.T, call string, got, want api.Poly, arguments ...any) {
	t.Helper()
	if !isValid(got) || !sample.SamePoly(got, canonical(want)) {
		t.Fatalf("%s is %v and not %v, for %v", call, got, want, arguments)
	}
}

// expectNumber fails the test if a result is not the number wanted.
func expectNumber(t *testing.T, call string, got, want api.Rat, arguments ...any) {
	t.Helper()
	if !sample.SameRat(got, rational.Trim(want)) {
		t.Fatalf("%s is %v and not %v, for %v", call, got, want, arguments)
	}
}

// refuse fails the test if a call does not fail with the error wanted and zero
// values.
func refuse(t *testing.T, call string, err, want api.Errno, got ...api.Poly) {
	t.Helper()
	if err != want {
		t.Fatalf("%s returns error %d and not %d", call, err, want)
	}
	for _, p := range got {
		if len(p) != 0 {
			t.Fatalf("%s returns %v with an error", call, p)
		}
	}
}

// The helpers call no function of the package, so that they can be compared
// with it.
func TestHelpers(t *testing.T) {
	loose := api.Poly{{}, {Num: api.Int{Mag: []uint32{6}}, Den: []uint32{4}}, {}}
	if isValid(loose) || degree(loose) != 1 || !sample.SamePoly(canonical(loose), api.Poly{rational.Of(0), rational.Frac(3, 2)}) {
		t.Error("the definition of a valid polynomial")
	}
	expect(t, "times", times(root(1), root(-1), of(2)), of(-2, 0, 2))
	expect(t, "times nothing", times(of(1, 2), of()), of())
	expect(t, "rest", rest(of(1, 0, 0, 1), of(0, 2)), of(1))
	expectNumber(t, "at", at(of(1, 2, 3), rational.Of(-2)), rational.Of(9))
	if !coprime(of(1, 1), of(2, 1)) || coprime(times(root(1), root(2)), times(root(3), root(2))) || coprime(of(), root(1)) || !coprime(of(), of(3)) {
		t.Error("the definition of coprime")
	}
	if !isMonic(root(5)) || isMonic(of(1, 2)) || isMonic(nil) || !poly.Valid(root(5)) {
		t.Error("the definition of monic")
	}
}

package poly_test

import (
	"testing"

	"dspcompiler/api"
	"dspcompiler/poly"
	"dspcompiler/rational"
)

// P5.3

func TestAddSubMul(t *testing.T) {
	pairs(func(p, q api.Poly) {
		expect(t, "Add", poly.Add(p, q), plus(p, q), p, q)
		expect(t, "Sub", poly.Sub(p, q), plus(p, multiple(q, rational.Of(-1), 0)), p, q)
		expect(t, "Mul", poly.Mul(p, q), times(p, q), p, q)
	})
}

func TestSumsThatCancel(t *testing.T) {
	for _, p := range polys() {
		expect(t, "Sub", poly.Sub(p, p), of(), p)
		expect(t, "Add", poly.Add(p, multiple(p, rational.Of(-1), 0)), of(), p)
		top := append(zeros(9), rational.Frac(1, 3))
		expect(t, "Sub", poly.Sub(plus(p, top), top), p, p)
	}
}

func TestScale(t *testing.T) {
	for _, p := range polys() {
		for _, c := range numbers() {
			expect(t, "Scale", poly.Scale(p, c), multiple(p, c, 0), p, c)
		}
	}
}

func TestPow(t *testing.T) {
	for _, p := range polys() {
		want := of(1)
		for n := range 5 {
			got, err := poly.Pow(p, n)
			if err != api.OK {
				t.Fatal("Pow", p, n, err)
			}
			expect(t, "Pow", got, want, p, n)
			want = times(want, p)
		}
	}
}

func TestPowLimits(t *testing.T) {
	for _, x := range []struct {
		degree, n int
		want      api.Errno
	}{
		{0, -1, api.ErrDegree}, {0, 0, api.OK}, {0, 48, api.OK}, {0, 49, api.ErrDegree}, {0, 1 << 40, api.ErrDegree}, {1, -1 << 40, api.ErrDegree},
		{4, 48, api.OK}, {5, 39, api.ErrDegree}, {5, 38, api.OK}, {192, 1, api.OK}, {193, 1, api.ErrDegree}, {97, 2, api.ErrDegree}, {96, 2, api.OK},
		{193, 0, api.OK}, {1000, 0, api.OK},
	} {
		// Zeros at the end do not add to the degree.
		got, err := poly.Pow(append(zeros(x.degree), of(1, 0, 0, 0)...), x.n)
		if x.want != api.OK {
			refuse(t, "Pow", err, x.want, got)
			continue
		}
		if err != api.OK {
			t.Fatal("Pow", x, err)
		}
		expect(t, "Pow", got, append(zeros(x.degree*x.n), of(1)...), x)
	}
}

func TestPowOfZero(t *testing.T) {
	for _, zero := range []api.Poly{nil, of(0, 0)} {
		for n := range api.MaxDegree + 1 {
			got, err := poly.Pow(zero, n)
			if err != api.OK {
				t.Fatal("Pow of zero", n, err)
			}
			want := of()
			if n == 0 {
				want = of(1)
			}
			expect(t, "Pow of zero", got, want, n)
		}
		for _, n := range []int{-1, api.MaxDegree + 1} {
			got, err := poly.Pow(zero, n)
			refuse(t, "Pow of zero", err, api.ErrDegree, got)
		}
	}
}

// The consequences of the chapter: the polynomials are a commutative ring, and
// Eval is a homomorphism.

func TestRing(t *testing.T) {
	list := polys()
	for i, p := range list {
		q, r := list[(i*7+3)%len(list)], list[(i*5+11)%len(list)]
		expect(t, "p + q", poly.Add(p, q), poly.Add(q, p), p, q)
		expect(t, "p q", poly.Mul(p, q), poly.Mul(q, p), p, q)
		expect(t, "(p + q) + r", poly.Add(poly.Add(p, q), r), poly.Add(p, poly.Add(q, r)), p, q, r)
		expect(t, "(p q) r", poly.Mul(poly.Mul(p, q), r), poly.Mul(p, poly.Mul(q, r)), p, q, r)
		expect(t, "(p + q) r", poly.Mul(poly.Add(p, q), r), poly.Add(poly.Mul(p, r), poly.Mul(q, r)), p, q, r)
		expect(t, "p + 0", poly.Add(p, nil), p, p)
		expect(t, "1 p", poly.Mul(of(1), p), p, p)
	}
}

func TestHomomorphism(t *testing.T) {
	list := numbers()
	pairs(func(p, q api.Poly) {
		x := list[(len(p)*5+len(q))%len(list)]
		a, b := poly.Eval(p, x), poly.Eval(q, x)
		expectNumber(t, "Eval of a sum", poly.Eval(poly.Add(p, q), x), rational.Add(a, b), p, q, x)
		expectNumber(t, "Eval of a difference", poly.Eval(poly.Sub(p, q), x), rational.Sub(a, b), p, q, x)
		expectNumber(t, "Eval of a product", poly.Eval(poly.Mul(p, q), x), rational.Mul(a, b), p, q, x)
		composed, _ := poly.Compose(p, q)
		expectNumber(t, "Eval of a composition", poly.Eval(composed, x), poly.Eval(p, b), p, q, x)
	})
}

// P5.4, Derivative

func TestDerivative(t *testing.T) {
	for _, p := range polys() {
		want := of()
		for i, c := range p {
			if i > 0 {
				want = plus(want, append(zeros(i-1), rational.Mul(c, rational.Of(i))))
			}
		}
		expect(t, "Derivative", poly.Derivative(p), want, p)
	}
	expect(t, "Derivative", poly.Derivative(of(5, 4, 3, 2)), of(4, 6, 6))
	for _, p := range []api.Poly{nil, of(0, 0), of(5), of(5, 0)} {
		expect(t, "Derivative of a number", poly.Derivative(p), of(), p)
	}
}

func TestProductRule(t *testing.T) {
	pairs(func(p, q api.Poly) {
		left, right := poly.Mul(poly.Derivative(p), q), poly.Mul(p, poly.Derivative(q))
		expect(t, "Derivative of a product", poly.Derivative(poly.Mul(p, q)), poly.Add(left, right), p, q)
	})
}

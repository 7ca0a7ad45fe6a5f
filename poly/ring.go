package poly

import (
	"dspcompiler/api"
	"dspcompiler/rational"
)

// Add returns the sum.
func Add(p, q api.Poly) api.Poly {
	return cut(sum(p, q))
}

// Sub returns the difference.
func Sub(p, q api.Poly) api.Poly {
	return cut(sum(p, mapped(q, rational.Neg)))
}

// Mul returns the product.
func Mul(p, q api.Poly) api.Poly {
	return cleared(p).product(cleared(q)).poly()
}

// Scale returns the product of a polynomial and a number.
func Scale(p api.Poly, c api.Rat) api.Poly {
	return cut(scaled(p, c))
}

// Pow returns the n-th power, or ErrDegree if n is not from 0 to MaxDegree or
// the degree of the power is greater than 4 * MaxDegree.
func Pow(p api.Poly, n int) (api.Poly, api.Errno) {
	if n < 0 || n > api.MaxDegree || n*Degree(p) > greatestDegree {
		return nil, api.ErrDegree
	}
	factor, power := cleared(p), integral{api.Poly{one()}, one()}
	for range n {
		power = power.product(factor)
	}
	return power.poly(), api.OK
}

// Derivative returns the derivative.
func Derivative(p api.Poly) api.Poly {
	var z api.Poly
	for i, c := range p {
		if i > 0 {
			z = append(z, rational.Mul(rational.Of(i), c))
		}
	}
	return cut(z)
}

// sum returns the coefficients of p + q.
func sum(p, q api.Poly) api.Poly {
	z := make(api.Poly, max(len(p), len(q)))
	for i := range z {
		z[i] = rational.Add(coefficient(p, i), coefficient(q, i))
	}
	return z
}

// coefficient returns the coefficient of the i-th power, not a copy of it.
func coefficient(p api.Poly, i int) api.Rat {
	if i >= len(p) {
		return api.Rat{}
	}
	return p[i]
}

// product returns the coefficients of the product of p and q.
func product(p, q api.Poly) api.Poly {
	if len(p) == 0 || len(q) == 0 {
		return nil
	}
	z := zeros(len(p) + len(q) - 1)
	for i, a := range p {
		for j, b := range q {
			z[i+j] = rational.Add(z[i+j], rational.Mul(a, b))
		}
	}
	return z
}

// scaled returns the coefficients of the product of p and a number.
func scaled(p api.Poly, factor api.Rat) api.Poly {
	return mapped(p, func(c api.Rat) api.Rat {
		return rational.Mul(c, factor)
	})
}

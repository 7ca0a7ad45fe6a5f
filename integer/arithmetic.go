package integer

import (
	"dspcompiler/api"
	"dspcompiler/nat"
)

// Neg returns the negation.
func Neg(a api.Int) api.Int {
	return signed(!a.Neg, nat.Trim(a.Mag))
}

// Abs returns the absolute value.
func Abs(a api.Int) api.Int {
	return signed(false, nat.Trim(a.Mag))
}

// Add returns the sum.
func Add(a, b api.Int) api.Int {
	switch {
	case a.Neg == b.Neg:
		return signed(a.Neg, nat.Add(a.Mag, b.Mag))
	case nat.Compare(a.Mag, b.Mag) == less:
		return signed(b.Neg, nat.Sub(b.Mag, a.Mag))
	default:
		return signed(a.Neg, nat.Sub(a.Mag, b.Mag))
	}
}

// Sub returns the difference.
func Sub(a, b api.Int) api.Int {
	b.Neg = !b.Neg
	return Add(a, b)
}

// Mul returns the product.
func Mul(a, b api.Int) api.Int {
	return signed(a.Neg != b.Neg, nat.Mul(a.Mag, b.Mag))
}

// Div returns the quotient and the remainder, which is never negative, or
// ErrZero if b is 0.
func Div(a, b api.Int) (api.Int, api.Int, api.Errno) {
	quotient, rest, err := nat.DivMod(a.Mag, b.Mag)
	if err != api.OK {
		return api.Int{}, api.Int{}, err
	}
	if a.Neg && len(rest) > 0 {
		quotient = nat.Add(quotient, []uint32{1})
		rest = nat.Sub(b.Mag, rest)
	}
	return signed(a.Neg != b.Neg, quotient), signed(false, rest), api.OK
}

// Gcd returns the greatest common divisor, which is never negative.
func Gcd(a, b api.Int) api.Int {
	return signed(false, nat.Gcd(a.Mag, b.Mag))
}

package rational

import (
	"dspcompiler/api"
	"dspcompiler/integer"
	"dspcompiler/nat"
)

// times returns the product of an integer and a natural number.
func times(a api.Int, n []uint32) api.Int {
	return integer.Mul(a, natural(n))
}

// negated returns the negation of f.
func (f fraction) negated() fraction {
	f.Num.Neg = !f.Num.Neg
	return f
}

// Neg returns the negation.
func Neg(a api.Rat) api.Rat {
	return read(a).negated().lowest()
}

// Abs returns the absolute value.
func Abs(a api.Rat) api.Rat {
	f := read(a)
	f.Num.Neg = false
	return f.lowest()
}

// Add returns the sum.
func Add(a, b api.Rat) api.Rat {
	return sum(read(a), read(b)).lowest()
}

// Sub returns the difference.
func Sub(a, b api.Rat) api.Rat {
	return sum(read(a), read(b).negated()).lowest()
}

// sum returns the sum, over the least common multiple of the denominators: in
// long calculations these are often multiples of one another, and what their
// product has too much would only have to be found again by a longer Gcd.
func sum(f, g fraction) fraction {
	if nat.Compare(f.Den, g.Den) == 0 {
		return over(integer.Add(f.Num, g.Num), f.Den)
	}
	common := nat.Gcd(f.Den, g.Den)
	forF, _, _ := nat.DivMod(g.Den, common)
	forG, _, _ := nat.DivMod(f.Den, common)
	return over(integer.Add(times(f.Num, forF), times(g.Num, forG)), nat.Mul(f.Den, forF))
}

// Mul returns the product.
func Mul(a, b api.Rat) api.Rat {
	f, g := read(a), read(b)
	return over(integer.Mul(f.Num, g.Num), nat.Mul(f.Den, g.Den)).lowest()
}

// Div returns the quotient, or ErrZero if b is 0.
func Div(a, b api.Rat) (api.Rat, api.Errno) {
	f, g := read(a), read(b)
	return Make(times(f.Num, g.Den), times(g.Num, f.Den))
}

// Pow returns the n-th power, or ErrArg if n is not from 0 to MaxPower.
func Pow(a api.Rat, n int) (api.Rat, api.Errno) {
	if n < 0 || n > api.MaxPower {
		return api.Rat{}, api.ErrArg
	}
	// Powers have no common divisor if the numbers themselves have none.
	base := Trim(a)
	num, _ := nat.Pow(base.Num.Mag, n)
	den, _ := nat.Pow(base.Den, n)
	return api.Rat{Num: api.Int{Neg: base.Num.Neg && n%2 == 1, Mag: num}, Den: den}, api.OK
}

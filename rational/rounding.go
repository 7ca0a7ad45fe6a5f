package rational

import (
	"dspcompiler/api"
	"dspcompiler/integer"
	"dspcompiler/nat"
)

// Floor returns the greatest integer that is not greater than a.
func Floor(a api.Rat) api.Int {
	return read(a).floor()
}

// Down returns the greatest multiple of 2^(-bits) that is not greater than a,
// or ErrArg if bits is not from 0 to MaxBits.
func Down(a api.Rat, bits int) (api.Rat, api.Errno) {
	return round(a, bits, fraction.floor)
}

// Up returns the least multiple of 2^(-bits) that is not less than a, or
// ErrArg if bits is not from 0 to MaxBits.
func Up(a api.Rat, bits int) (api.Rat, api.Errno) {
	return round(a, bits, fraction.ceiling)
}

// Nearest returns the multiple of 2^(-bits) that is nearest to a, the greater
// one of two, or ErrArg if bits is not from 0 to MaxBits.
func Nearest(a api.Rat, bits int) (api.Rat, api.Errno) {
	return round(a, bits, fraction.nearest)
}

// round returns the multiple of 2^(-bits) whose quotient by it is the integer
// to which the quotient of a is rounded, or ErrArg if bits is out of range.
func round(a api.Rat, bits int, toInteger func(fraction) api.Int) (api.Rat, api.Errno) {
	if bits < 0 || bits > api.MaxBits {
		return api.Rat{}, api.ErrArg
	}
	f := read(a)
	f.Num.Mag = nat.Shift(f.Num.Mag, bits)
	return over(toInteger(f), nat.Shift([]uint32{1}, bits)).lowest(), api.OK
}

// floor returns the greatest integer that is not greater than f.
func (f fraction) floor() api.Int {
	quotient, _, _ := integer.Div(f.Num, natural(f.Den))
	return quotient
}

// ceiling returns the least integer that is not less than f.
func (f fraction) ceiling() api.Int {
	return integer.Neg(f.negated().floor())
}

// nearest returns the integer that is nearest to f, the greater one of two:
// the greatest one that is not greater than f + 1/2.
func (f fraction) nearest() api.Int {
	return sum(f, over(integer.Of(1), []uint32{2})).floor()
}

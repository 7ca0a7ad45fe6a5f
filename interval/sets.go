package interval

import (
	"dspcompiler/api"
	"dspcompiler/rational"
)

// lesser returns the lesser one of two numbers; it does not copy it.
func lesser(a, b api.Rat) api.Rat {
	if rational.Compare(a, b) <= 0 {
		return a
	}
	return b
}

// greater returns the greater one of two numbers; it does not copy it.
func greater(a, b api.Rat) api.Rat {
	if rational.Compare(a, b) >= 0 {
		return a
	}
	return b
}

// Meet returns the numbers that are in both intervals and true, or a zero
// value and false if there are none.
func Meet(a, b api.Interval) (api.Interval, bool) {
	a, b = ordered(a), ordered(b)
	lo, hi := greater(a.Lo, b.Lo), lesser(a.Hi, b.Hi)
	if rational.Compare(lo, hi) > 0 {
		return api.Interval{}, false
	}
	return Make(lo, hi), true
}

// Hull returns the least interval that contains both.
func Hull(a, b api.Interval) api.Interval {
	a, b = ordered(a), ordered(b)
	return Make(lesser(a.Lo, b.Lo), greater(a.Hi, b.Hi))
}

// Round returns the least interval that contains a and whose ends are
// multiples of 2^(-bits), or ErrArg if bits is not from 0 to MaxBits.
func Round(a api.Interval, bits int) (api.Interval, api.Errno) {
	a = ordered(a)
	lo, err := rational.Down(a.Lo, bits)
	if err != api.OK {
		return api.Interval{}, err
	}
	hi, err := rational.Up(a.Hi, bits)
	if err != api.OK {
		return api.Interval{}, err
	}
	return api.Interval{Lo: lo, Hi: hi}, api.OK
}

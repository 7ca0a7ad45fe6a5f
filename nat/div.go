package nat

import (
	"math"
	"math/bits"
	"slices"

	"dspcompiler/api"
)

// DivMod returns the quotient, rounded down, and the remainder, or ErrZero if
// b is 0.
func DivMod(a, b []uint32) ([]uint32, []uint32, api.Errno) {
	a, b = cut(a), cut(b)
	switch {
	case len(b) == 0:
		return nil, nil, api.ErrZero
	case Compare(a, b) < 0:
		return nil, slices.Clone(a), api.OK
	case len(b) == 1:
		quotient := slices.Clone(a)
		rest := divideBy(quotient, b[0])
		return cut(quotient), cut([]uint32{rest}), api.OK
	}
	quotient, rest := longDivision(a, b)
	return quotient, rest, api.OK
}

// divideBy divides z by a digit that is not 0, in place, and returns the
// remainder.
func divideBy(z []uint32, digit uint32) uint32 {
	var rest uint64
	for i := len(z) - 1; i >= 0; i-- {
		rest = rest<<digitBits | uint64(z[i])
		z[i] = uint32(rest / uint64(digit))
		rest %= uint64(digit)
	}
	return uint32(rest)
}

// longDivision divides a by b, which has two digits at least and is at most a.
// Both are shifted until the first bit of b is 1, so that a digit of the
// quotient that is guessed from the first digits is at most one too great.
func longDivision(a, b []uint32) (quotient, rest []uint32) {
	shift := bits.LeadingZeros32(b[len(b)-1])
	b = shiftUp(b, shift)
	left := make([]uint32, len(a)+1)
	shiftDigits(left, a, shift)
	quotient = make([]uint32, len(a)-len(b)+1)
	for i := len(quotient) - 1; i >= 0; i-- {
		window := left[i : i+len(b)+1]
		digit := guessDigit(window, b)
		if decreaseBy(window, b, digit) {
			increase(window, b)
			digit--
		}
		quotient[i] = digit
	}
	return cut(quotient), shiftDown(cut(left), -shift)
}

// guessDigit returns the quotient of window and b, or one more. The first bit
// of b is 1, window has one digit more than b, and the quotient is a digit.
func guessDigit(window, b []uint32) uint32 {
	n := len(b)
	first, second := uint64(b[n-1]), uint64(b[n-2])
	top := uint64(window[n])<<digitBits | uint64(window[n-1])
	digit, rest := top/first, top%first
	for rest <= math.MaxUint32 {
		if digit <= math.MaxUint32 && digit*second <= rest<<digitBits|uint64(window[n-2]) {
			break
		}
		digit--
		rest += first
	}
	return uint32(digit)
}

// decreaseBy subtracts b times a digit from z, which is one digit longer than
// b, in place. It reports whether the difference was negative; z is then too
// great by 2^32 to the power of its length.
func decreaseBy(z, b []uint32, digit uint32) bool {
	var carry uint64
	var borrow uint32
	for i, other := range b {
		carry += uint64(digit) * uint64(other)
		z[i], borrow = bits.Sub32(z[i], uint32(carry), borrow)
		carry >>= digitBits
	}
	last := len(b)
	z[last], borrow = bits.Sub32(z[last], uint32(carry), borrow)
	return borrow != 0
}

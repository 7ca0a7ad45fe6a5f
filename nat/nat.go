// Package nat is layer 1: natural numbers (shared/doc/01-nat.md).
//
// A number is a list of digits to the base 2^32, the lowest digit first. All
// functions accept lists with leading zeros and return lists without them.
package nat

import (
	"cmp"
	"math/bits"
	"slices"

	"dspcompiler/api"
)

// digitBits is the number of bits of a digit.
const digitBits = 32

// Normal reports whether a list has no leading zero.
func Normal(a []uint32) bool {
	return len(a) == 0 || a[len(a)-1] != 0
}

// Trim returns a copy of a list without its leading zeros.
func Trim(a []uint32) []uint32 {
	return slices.Clone(cut(a))
}

// cut returns the part of a list without its leading zeros. It shares the
// memory of a, so it is for use within a call only.
func cut(a []uint32) []uint32 {
	for !Normal(a) {
		a = a[:len(a)-1]
	}
	return a
}

// Compare returns -1, 0 or 1, as a is less than, equal to or greater than b.
func Compare(a, b []uint32) int {
	a, b = cut(a), cut(b)
	if len(a) != len(b) {
		return cmp.Compare(len(a), len(b))
	}
	for i := len(a) - 1; i >= 0; i-- {
		if a[i] != b[i] {
			return cmp.Compare(a[i], b[i])
		}
	}
	return 0
}

// Add returns the sum.
func Add(a, b []uint32) []uint32 {
	a, b = cut(a), cut(b)
	if len(a) < len(b) {
		a, b = b, a
	}
	z := make([]uint32, len(a)+1)
	copy(z, a)
	increase(z, b)
	return cut(z)
}

// Sub returns the difference, or 0 if b is greater than a.
func Sub(a, b []uint32) []uint32 {
	a, b = cut(a), cut(b)
	if Compare(a, b) < 0 {
		return nil
	}
	z := slices.Clone(a)
	decrease(z, b)
	return cut(z)
}

// increase adds b to z in place. It drops a carry out of the last digit of z;
// b must not be longer than z.
func increase(z, b []uint32) {
	var carry uint32
	for i, digit := range b {
		z[i], carry = bits.Add32(z[i], digit, carry)
	}
	for i := len(b); carry != 0 && i < len(z); i++ {
		z[i], carry = bits.Add32(z[i], 0, carry)
	}
}

// decrease subtracts b from z in place; b must be at most z.
func decrease(z, b []uint32) {
	var borrow uint32
	for i, digit := range b {
		z[i], borrow = bits.Sub32(z[i], digit, borrow)
	}
	for i := len(b); borrow != 0 && i < len(z); i++ {
		z[i], borrow = bits.Sub32(z[i], 0, borrow)
	}
}

// BitLen returns the least n for which a is less than 2^n.
func BitLen(a []uint32) int {
	a = cut(a)
	if len(a) == 0 {
		return 0
	}
	last := len(a) - 1
	return last*digitBits + bits.Len32(a[last])
}

// Shift returns a times 2^n, rounded down, or 0 if n is greater than MaxShift.
func Shift(a []uint32, n int) []uint32 {
	switch {
	case n > api.MaxShift:
		return nil
	case n >= 0:
		return shiftUp(cut(a), n)
	default:
		return shiftDown(cut(a), n)
	}
}

// shiftUp returns the normal list a times 2^n. Unlike Shift it has no limit
// but memory, because roots of long numbers shift by more than MaxShift.
func shiftUp(a []uint32, n int) []uint32 {
	if len(a) == 0 {
		return nil
	}
	whole := n / digitBits
	z := make([]uint32, len(a)+whole+1)
	shiftDigits(z[whole:], a, n%digitBits)
	return cut(z)
}

// shiftDigits writes a times 2^n into z, which is one digit longer than a; n
// is from 0 to 31.
func shiftDigits(z, a []uint32, n int) {
	var carry uint64
	for i, digit := range a {
		carry |= uint64(digit) << n
		z[i] = uint32(carry)
		carry >>= digitBits
	}
	z[len(a)] = uint32(carry)
}

// shiftDown returns a times 2^n, rounded down, for a negative n. The number of
// digits is formed from n itself, because -n overflows for the least int.
func shiftDown(a []uint32, n int) []uint32 {
	whole, rest := -(n / digitBits), -(n % digitBits)
	if whole >= len(a) {
		return nil
	}
	z := make([]uint32, len(a)-whole)
	var high uint64
	for i := len(a) - 1; i >= whole; i-- {
		high = high<<digitBits | uint64(a[i])
		z[i-whole] = uint32(high >> rest)
	}
	return cut(z)
}

package nat

import (
	"math/bits"
	"slices"
)

// Gcd returns the greatest common divisor; that of 0 and b is b.
func Gcd(a, b []uint32) []uint32 {
	a, b = cut(a), cut(b)
	if Compare(a, b) < 0 {
		a, b = b, a
	}
	if len(b) > 2 {
		a, b = shorten(a, b)
	}
	if len(b) == 0 {
		return slices.Clone(a)
	}
	_, rest, _ := DivMod(a, b)
	return ofUint64(smallGcd(toUint64(b), toUint64(rest)))
}

// shorten returns two numbers with the same common divisors as a and b, of
// which the second one has two digits at most; a is at least b. It computes
// many steps of Euclid's algorithm on the first 64 bits of the numbers and
// then does them all at once (Lehmer's method). Four lists are enough memory
// for the whole way: two for the numbers and two for their successors.
func shorten(a, b []uint32) ([]uint32, []uint32) {
	size := len(a)
	x, y := append(make([]uint32, 0, size), a...), append(make([]uint32, 0, size), b...)
	nextX, nextY := make([]uint32, size), make([]uint32, size)
	for len(y) > 2 {
		s := guessSteps(x, y)
		if s.y0 == 0 {
			_, rest, _ := DivMod(x, y)
			x, y = y, append(x[:0], rest...)
			continue
		}
		if s.even {
			nextX = difference(nextX[:len(x)], s.x0, x, s.y0, y)
			nextY = difference(nextY[:len(x)], s.y1, y, s.x1, x)
		} else {
			nextX = difference(nextX[:len(x)], s.y0, y, s.x0, x)
			nextY = difference(nextY[:len(x)], s.x1, x, s.y1, y)
		}
		x, y, nextX, nextY = nextX, nextY, x, y
	}
	return x, y
}

// steps are several steps of Euclid's algorithm: x and y become x0 x - y0 y
// and y1 y - x1 x if the number of the steps is even, and the negations of
// these if it is odd. All factors are less than 2^32.
type steps struct {
	x0, y0, x1, y1 uint64
	even           bool
}

// guessSteps returns as many steps of Euclid's algorithm as are certain from
// the first 64 bits of x and the bits of y at the same places; y0 is 0 if not
// even one is. It ends by the condition of Collins, which also keeps the
// factors that are returned below 2^32.
func guessSteps(x, y []uint32) steps {
	size, shift := len(x), bits.LeadingZeros32(x[len(x)-1])
	a, b := firstBits(x, size, shift), firstBits(y, size, shift)
	s := steps{x1: 1}
	x2, y2 := uint64(0), uint64(1)
	for b >= y2 && a-b >= s.y1+y2 {
		q := a / b
		a, b = b, a-q*b
		s.x0, s.x1, x2 = s.x1, x2, s.x1+q*x2
		s.y0, s.y1, y2 = s.y1, y2, s.y1+q*y2
		s.even = !s.even
	}
	return s
}

// firstBits returns the 64 bits of a that begin shift bits below the top of
// its digit size-1; size is at least 3. Digits that a does not have are 0.
func firstBits(a []uint32, size, shift int) uint64 {
	var top [3]uint64
	for i := range top {
		if at := size - 1 - i; at < len(a) {
			top[i] = uint64(a[at])
		}
	}
	return (top[0]<<digitBits|top[1])<<shift | top[2]>>(digitBits-shift)
}

// difference writes p a - q b, which is not negative and not longer than z,
// into z and returns z without leading zeros; p and q are less than 2^32.
func difference(z []uint32, p uint64, a []uint32, q uint64, b []uint32) []uint32 {
	var plus, minus uint64
	var borrow uint32
	for i := range z {
		if i < len(a) {
			plus += p * uint64(a[i])
		}
		if i < len(b) {
			minus += q * uint64(b[i])
		}
		z[i], borrow = bits.Sub32(uint32(plus), uint32(minus), borrow)
		plus >>= digitBits
		minus >>= digitBits
	}
	return cut(z)
}

// smallGcd returns the greatest common divisor of two numbers, of which a is
// not 0, by halving and subtracting.
func smallGcd(a, b uint64) uint64 {
	common := bits.TrailingZeros64(a | b)
	a >>= bits.TrailingZeros64(a)
	for b != 0 {
		b >>= bits.TrailingZeros64(b)
		a, b = min(a, b), max(a, b)-min(a, b)
	}
	return a << common
}

// toUint64 returns the value of a list of two digits at most.
func toUint64(a []uint32) uint64 {
	var n uint64
	for i, digit := range a {
		n |= uint64(digit) << (digitBits * i)
	}
	return n
}

// ofUint64 returns the list of a value.
func ofUint64(n uint64) []uint32 {
	return cut([]uint32{uint32(n), uint32(n >> digitBits)})
}

package nat

// splitFrom is the number of digits from which on three products of halves
// are faster than four.
const splitFrom = 48

// Mul returns the product.
func Mul(a, b []uint32) []uint32 {
	return product(cut(a), cut(b))
}

// product returns the product of two normal lists.
func product(a, b []uint32) []uint32 {
	if len(a) < len(b) {
		a, b = b, a
	}
	if len(b) < splitFrom {
		return shortProduct(a, b)
	}
	half := (len(a) + 1) / 2
	lowA, highA := split(a, half)
	lowB, highB := split(b, half)
	z := make([]uint32, len(a)+len(b))
	low := product(lowA, lowB)
	copy(z, low)
	if len(highB) == 0 {
		increase(z[half:], product(highA, lowB))
		return cut(z)
	}
	high := product(highA, highB)
	copy(z[2*half:], high)
	// lowA highB + highA lowB is found with one product instead of two
	middle := product(Add(lowA, highA), Add(lowB, highB))
	decrease(middle, low)
	decrease(middle, high)
	increase(z[half:], cut(middle))
	return cut(z)
}

// split cuts a list into the lowest n digits and the digits above them.
func split(a []uint32, n int) (low, high []uint32) {
	if len(a) <= n {
		return a, nil
	}
	return cut(a[:n]), a[n:]
}

// shortProduct returns the product, formed digit by digit.
func shortProduct(a, b []uint32) []uint32 {
	z := make([]uint32, len(a)+len(b))
	for i, digit := range b {
		z[i+len(a)] = increaseBy(z[i:i+len(a)], a, digit)
	}
	return cut(z)
}

// increaseBy adds a times a digit to z, which is as long as a, in place, and
// returns the carry out of z.
func increaseBy(z, a []uint32, digit uint32) uint32 {
	var carry uint64
	for i, other := range a {
		// (2^32 - 1)^2 + 2 (2^32 - 1) is 2^64 - 1: the sum fits
		carry += uint64(z[i]) + uint64(digit)*uint64(other)
		z[i] = uint32(carry)
		carry >>= digitBits
	}
	return uint32(carry)
}

package nat

import (
	"math/bits"

	"dspcompiler/api"
)

// Pow returns the n-th power, or ErrArg if n is not from 0 to MaxPower.
func Pow(a []uint32, n int) ([]uint32, api.Errno) {
	if n < 0 || n > api.MaxPower {
		return nil, api.ErrArg
	}
	return power(cut(a), n), api.OK
}

// power returns the n-th power of a normal list: it squares once for each bit
// of n, from the highest one down.
func power(a []uint32, n int) []uint32 {
	z := []uint32{1}
	for i := bits.Len(uint(n)) - 1; i >= 0; i-- {
		z = product(z, z)
		if n>>i&1 == 1 {
			z = product(z, a)
		}
	}
	return z
}

// Root returns the greatest number whose n-th power is at most a, or ErrArg if
// n is not from 1 to MaxPower.
func Root(a []uint32, n int) ([]uint32, api.Errno) {
	if n < 1 || n > api.MaxPower {
		return nil, api.ErrArg
	}
	if n == 1 {
		return Trim(a), api.OK
	}
	return root(cut(a), n), api.OK
}

// root returns the root of a normal list, for n from 2 on. It is found by
// Newton's method. The first half of its bits, plus 1, is a root as well, and
// a start that is greater than the root and so near to it that few steps are
// needed.
func root(a []uint32, n int) []uint32 {
	length := BitLen(a)
	if length == 0 {
		return nil
	}
	if length <= n {
		return []uint32{1}
	}
	half := (length + n - 1) / n / 2
	x := shiftUp(Add(root(shiftDown(a, -n*half), n), []uint32{1}), half)
	for {
		// from above the steps fall until they are at the root
		next := newtonStep(a, x, n)
		if Compare(next, x) >= 0 {
			return x
		}
		x = next
	}
}

// newtonStep returns ((n - 1) x + a / x^(n - 1)) / n, both quotients rounded
// down; x is not 0.
func newtonStep(a, x []uint32, n int) []uint32 {
	sum, _, _ := DivMod(a, power(x, n-1))
	sum = Add(sum, Mul(x, []uint32{uint32(n - 1)}))
	divideBy(sum, uint32(n))
	return cut(sum)
}

// Package sample makes the numbers, the intervals and the polynomials that the
// tests of the layers are run with.
//
// It calls no layer, so that it can be used to test all of them.
package sample

import (
	"slices"
	"strconv"
	"strings"

	"dspcompiler/api"
)

// top is the greatest digit.
const top = 1<<32 - 1

// Generator makes the same numbers in every run; its value is the seed.
type Generator uint64

// Next returns the high half of a linear congruential sequence.
func (g *Generator) Next() uint32 {
	*g = *g*6364136223846793005 + 1442695040888963407
	return uint32(*g >> 32)
}

// Below returns a number from 0 to n - 1.
func (g *Generator) Below(n int) int {
	return int(g.Next()) % n
}

// Digits returns a list of n digits. Every third one is 0 or the greatest, for
// the carries that ordinary digits do not bring about.
func (g *Generator) Digits(n int) []uint32 {
	z := make([]uint32, n)
	for i := range z {
		switch g.Below(6) {
		case 0:
			z[i] = 0
		case 1:
			z[i] = top
		default:
			z[i] = g.Next()
		}
	}
	return z
}

// Int returns an integer of n digits, some of which may be leading zeros.
func (g *Generator) Int(n int) api.Int {
	return api.Int{Neg: g.Below(2) == 0, Mag: g.Digits(n)}
}

// Edges are lists at the ends of their sizes, some with leading zeros.
func Edges() [][]uint32 {
	return [][]uint32{
		nil, {}, {0}, {0, 0, 0}, {1}, {1, 0}, {2}, {3}, {top}, {top, 0, 0},
		{0, 1}, {0, 1, 0}, {1, 1}, {top, top}, {0, 1 << 31}, {top, 1<<31 - 1},
		{0, 0, 1}, {1, 0, 1 << 31}, {0, top, 1 << 31}, {top, 0, top}, {top, top, top},
		{0, 0, 0, 1 << 31}, {5, top, top, 1<<31 - 1}, {3, 2, 1, top, top}, {0, 0, 0, 0, 0, 1},
	}
}

// Ints are the edges with both signs, so that there are negative zeros.
func Ints() []api.Int {
	var z []api.Int
	for _, mag := range Edges() {
		z = append(z, api.Int{Mag: mag}, api.Int{Neg: true, Mag: slices.Clone(mag)})
	}
	return z
}

// Hex returns the value of a list, by its definition, to the base 16.
func Hex(digits []uint32) string {
	text := []string{"0"}
	for _, digit := range slices.Backward(digits) {
		block := strconv.FormatUint(uint64(digit), 16)
		text = append(text, strings.Repeat("0", 8-len(block)), block)
	}
	return strings.Join(text, "")
}

// Guarded returns a copy of a list with more memory behind it, so that a
// function that appends to an argument is found out by Untouched.
func Guarded(a []uint32) []uint32 {
	return append(slices.Clone(a), guard()...)[:len(a)]
}

// Untouched reports whether a list that was made by Guarded is still equal to
// a, and the memory behind it is as it was.
func Untouched(guarded, a []uint32) bool {
	all := guarded[:len(a)+len(guard())]
	return slices.Equal(guarded, a) && slices.Equal(all[len(a):], guard())
}

// Spoil overwrites a list and the memory behind it, so that whoever shares it
// is found out.
func Spoil(a []uint32) {
	a = a[:cap(a)]
	for i := range a {
		a[i] = 99
	}
}

// Apart reports whether no two lists share memory. It overwrites all of them.
func Apart(lists [][]uint32) bool {
	before := make([][]uint32, len(lists))
	for i, a := range lists {
		before[i] = slices.Clone(a)
	}
	for i, a := range lists {
		if !slices.Equal(a, before[i]) {
			return false
		}
		Spoil(a)
	}
	return true
}

// guard is what lies behind a guarded list.
func guard() []uint32 {
	return []uint32{11, 12, 13, 14}
}

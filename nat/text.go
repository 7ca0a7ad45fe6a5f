package nat

import (
	"slices"
	"strings"

	"dspcompiler/api"
)

// Texts are converted by chunks of chunkPlaces decimal places, as many as fit
// a digit; chunkBase is 10 to that power.
const (
	chunkPlaces = 9
	chunkBase   = 1_000_000_000
)

// Format returns a number in decimal digits, without leading zeros.
func Format(a []uint32) string {
	left := Trim(a)
	if len(left) == 0 {
		return "0"
	}
	var text []byte
	for len(left) > 0 {
		chunk := divideBy(left, chunkBase)
		left = cut(left)
		for range chunkPlaces {
			text = append(text, '0'+byte(chunk%10))
			chunk /= 10
		}
	}
	slices.Reverse(text)
	return strings.TrimLeft(string(text), "0")
}

// Parse returns the number for which Format returns s, or ErrTooLong if s has
// more than MaxText bytes, or ErrSyntax if there is none.
func Parse(s string) ([]uint32, api.Errno) {
	switch {
	case len(s) > api.MaxText:
		return nil, api.ErrTooLong
	case s == "0":
		return nil, api.OK
	case s == "" || s[0] == '0':
		return nil, api.ErrSyntax
	}
	var z []uint32
	at := 0
scan:
	for at < len(s) {
		chunk, scale := uint32(0), uint32(1)
		for ; at < len(s) && scale < chunkBase; at++ {
			if s[at] < '0' || s[at] > '9' {
				break scan
			}
			chunk, scale = 10*chunk+uint32(s[at]-'0'), 10*scale
		}
		z = scaleAndAdd(z, scale, chunk)
	}
	if at < len(s) {
		return nil, api.ErrSyntax
	}
	return z, api.OK
}

// scaleAndAdd returns z times scale plus extra; it changes z in place.
func scaleAndAdd(z []uint32, scale, extra uint32) []uint32 {
	carry := uint64(extra)
	for i := range z {
		carry += uint64(z[i]) * uint64(scale)
		z[i] = uint32(carry)
		carry >>= digitBits
	}
	if carry != 0 {
		z = append(z, uint32(carry))
	}
	return z
}

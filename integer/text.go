package integer

import (
	"strings"

	"dspcompiler/api"
	"dspcompiler/nat"
)

// minus begins the texts of negative integers.
const minus = "-"

// Format returns an integer in decimal digits, without leading zeros.
func Format(a api.Int) string {
	text := nat.Format(a.Mag)
	if isNegative(a) {
		return minus + text
	}
	return text
}

// Parse returns the integer for which Format returns s, or ErrTooLong if s has
// more than MaxText bytes, or ErrSyntax if there is none.
func Parse(s string) (api.Int, api.Errno) {
	if len(s) > api.MaxText {
		return api.Int{}, api.ErrTooLong
	}
	digits, negative := strings.CutPrefix(s, minus)
	magnitude, err := nat.Parse(digits)
	if err != api.OK {
		return api.Int{}, err
	}
	if negative && len(magnitude) == 0 {
		return api.Int{}, api.ErrSyntax
	}
	return signed(negative, magnitude), api.OK
}

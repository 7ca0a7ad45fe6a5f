package rational

import (
	"strings"

	"dspcompiler/api"
	"dspcompiler/integer"
	"dspcompiler/nat"
)

// slash is what stands between the numerator and the denominator in a text.
const slash = "/"

// Format returns the numerator in decimal digits, and, if the denominator is
// not 1, a slash and the denominator.
func Format(a api.Rat) string {
	a = Trim(a)
	num := integer.Format(a.Num)
	if isOne(a.Den) {
		return num
	}
	return num + slash + nat.Format(a.Den)
}

// Parse returns the number for which Format returns s, or ErrTooLong if s has
// more than MaxText bytes, or ErrSyntax if there is none.
func Parse(s string) (api.Rat, api.Errno) {
	if len(s) > api.MaxText {
		return api.Rat{}, api.ErrTooLong
	}
	above, below, divided := strings.Cut(s, slash)
	a := Of(1)
	var err api.Errno
	if a.Num, err = integer.Parse(above); err != api.OK {
		return api.Rat{}, err
	}
	if !divided {
		return a, api.OK
	}
	if a.Den, err = nat.Parse(below); err != api.OK {
		return api.Rat{}, err
	}
	if isOne(a.Den) || !Valid(a) {
		return api.Rat{}, api.ErrSyntax
	}
	return a, api.OK
}

package nat_test

import (
	"slices"
	"strings"
	"testing"

	"dspcompiler/api"
	"dspcompiler/nat"
)

// P1.5

func TestFormat(t *testing.T) {
	if s := nat.Format([]uint32{0, 1}); s != "4294967296" {
		t.Error("the chapter's example", s)
	}
	pairs(func(a, _ []uint32) {
		if s := nat.Format(a); s != value(a).String() {
			t.Fatal("Format", a, s)
		}
	})
}

// Powers of ten and their neighbours have zeros and nines at the ends of the
// chunks in which texts are converted.
func TestTextsOfPowersOfTen(t *testing.T) {
	for n := range 60 {
		power := "1" + strings.Repeat("0", n)
		texts := []string{power, power + "1", "1" + power, strings.Repeat("9", n+1), power + power}
		for _, s := range texts {
			a, e := nat.Parse(s)
			if e != api.OK || !isNormal(a) || value(a).String() != s {
				t.Error("Parse", s, a, e)
			}
			if back := nat.Format(list(t, s)); back != s {
				t.Error("Format", s, back)
			}
		}
	}
}

func TestParseIsUndoneByFormat(t *testing.T) {
	pairs(func(a, _ []uint32) {
		z, e := nat.Parse(nat.Format(a))
		if e != api.OK || !slices.Equal(z, trimmed(a)) {
			t.Fatal("Parse of Format", a, z, e)
		}
	})
	if a, e := nat.Parse("0"); e != api.OK || len(a) != 0 {
		t.Error("Parse of 0", a, e)
	}
}

func TestParseMalformed(t *testing.T) {
	texts := []string{
		"", " ", "00", "01", "007", "000000000", "0000000001", "-0", "-1", "+1", " 1", "1 ", "1\n", "1\x00",
		"1.0", "1e3", "1/2", "1_000", "0x10", "a", "1a", "a1", "1/", "1:", "\u0661", "1\u00b2",
		"12345678a", "123456789a", "1234567890a", "a123456789", "123456789 123456789", "123456789-",
		strings.Repeat("7", api.MaxText-1) + "x", "x" + strings.Repeat("7", api.MaxText-1), strings.Repeat("0", api.MaxText),
	}
	for _, s := range texts {
		if a, e := nat.Parse(s); e != api.ErrSyntax || len(a) != 0 {
			t.Errorf("Parse(%q) is %v, %v", s, a, e)
		}
	}
	for c := range 256 {
		s := "12" + string([]byte{byte(c)}) + "34"
		if _, e := nat.Parse(s); (e == api.OK) != (c >= '0' && c <= '9') {
			t.Errorf("Parse(%q) is %v", s, e)
		}
	}
}

func TestParseLengths(t *testing.T) {
	longest := strings.Repeat("9876543210", api.MaxText)[:api.MaxText]
	if a, e := nat.Parse(longest); e != api.OK || value(a).String() != longest {
		t.Error("Parse of the longest text", e)
	}
	for _, s := range []string{longest + "1", strings.Repeat("x", api.MaxText+1), strings.Repeat("0", api.MaxText+1)} {
		if a, e := nat.Parse(s); e != api.ErrTooLong || len(a) != 0 {
			t.Error("Parse of a text that is too long", len(a), e)
		}
	}
}

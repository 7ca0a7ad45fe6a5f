package integer_test

import (
	"strings"
	"testing"

	"dspcompiler/api"
	"dspcompiler/integer"
	"dspcompiler/internal/sample"
)

// P2.4

func TestFormat(t *testing.T) {
	g := sample.Generator(4)
	list := numbers()
	for n := range 50 {
		list = append(list, g.Int(n))
	}
	for _, a := range list {
		s := integer.Format(a)
		if s != value(a).String() {
			t.Fatal("Format", a, s)
		}
		back, e := integer.Parse(s)
		if e != api.OK || !same(back, integer.Trim(a)) {
			t.Fatal("Parse of Format", a, back, e)
		}
	}
	for _, a := range []api.Int{{}, {Neg: true}, {Mag: []uint32{0}}, {Neg: true, Mag: []uint32{0}}, {Neg: true, Mag: []uint32{0, 0}}} {
		if s := integer.Format(a); s != "0" {
			t.Error("Format of 0", a, s)
		}
	}
}

func TestParse(t *testing.T) {
	for _, s := range []string{"0", "1", "-1", "9", "-10", "4294967295", "-4294967296", "-9223372036854775808", "123456789012345678901234567890"} {
		a, e := integer.Parse(s)
		if e != api.OK || !isValid(a) || value(a).String() != s {
			t.Error("Parse", s, a, e)
		}
	}
}

func TestParseOfMalformedTexts(t *testing.T) {
	for _, s := range []string{
		"", "-", "--", "-0", "-00", "00", "01", "-01", "--1", "+1", "-+1", "+-1", "1-", "1-1", " 1", "1 ", "- 1", "-1 ", "-1\n",
		"1.0", "-1e3", "0x10", "1_000", "-a", "½", "\u22121", "\u0661", "-\xff", "\x00", "-9:", "-/",
	} {
		if a, e := integer.Parse(s); e != api.ErrSyntax || !same(a, api.Int{}) {
			t.Errorf("Parse of %q: %v %v", s, a, e)
		}
	}
}

func TestParseOfLongTexts(t *testing.T) {
	for _, s := range []string{strings.Repeat("9", api.MaxText), "-" + strings.Repeat("9", api.MaxText-1)} {
		if a, e := integer.Parse(s); e != api.OK || value(a).String() != s {
			t.Error("the longest text", e)
		}
	}
	// A text that is too long is not looked at.
	for _, s := range []string{strings.Repeat("9", api.MaxText+1), "-" + strings.Repeat("9", api.MaxText), strings.Repeat("x", api.MaxText+1), strings.Repeat("-", api.MaxText+1), "-0" + strings.Repeat("0", api.MaxText)} {
		if a, e := integer.Parse(s); e != api.ErrTooLong || !same(a, api.Int{}) {
			t.Error("a text that is too long", s[:5], e)
		}
	}
	if a, e := integer.Parse(strings.Repeat("x", api.MaxText)); e != api.ErrSyntax || !same(a, api.Int{}) {
		t.Error("a malformed text of the greatest length", e)
	}
}

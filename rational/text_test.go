package rational_test

import (
	"strings"
	"testing"

	"dspcompiler/api"
	"dspcompiler/internal/sample"
	"dspcompiler/rational"
)

// P3.4

func TestFormat(t *testing.T) {
	list := numbers()
	g := sample.Generator(4)
	for n := range 30 {
		list = append(list, g.Rat(n))
	}
	for _, a := range list {
		s := rational.Format(a)
		if s != value(a).RatString() {
			t.Fatal("Format", a, s)
		}
		back, e := rational.Parse(s)
		if e != api.OK || !sample.SameRat(back, rational.Trim(a)) {
			t.Fatal("Parse of Format", a, back, e)
		}
	}
}

func TestParse(t *testing.T) {
	for _, s := range []string{"0", "1", "-1", "1/2", "-1/2", "10/3", "-35/6", "4294967295/4294967296", "-1/340282366920938463463374607431768211456", "123456789012345678901234567890"} {
		a, e := rational.Parse(s)
		if e != api.OK || !isValid(a) || value(a).RatString() != s {
			t.Error("Parse", s, a, e)
		}
	}
}

func TestParseOfMalformedTexts(t *testing.T) {
	for _, s := range []string{
		"", "-", "/", "-/", "1/", "-1/", "/2", "-/2", "0/1", "0/2", "0/0", "-0", "-0/1", "-0/3", "1/0", "-1/0", "2/0", "1/1", "-7/1", "2/4", "6/3", "-6/9", "7/7",
		"1/-2", "-1/-2", "1/+2", "+1/2", "1/02", "01/2", "-01/2", "1/2/3", "1/2/", "/1/2", "1//2", "1 /2", "1/ 2", " 1/2", "1/2 ", "1/2\n", "0.5", "1e3", ".5",
		"1/2.0", "1/a", "a/2", "0x1/2", "1\\2", "1:2", "½", "1\u20442", "1/\u0662", "\xff/2", "1/\x00", "4294967296/4294967296", "340282366920938463463374607431768211456/2",
	} {
		a, e := rational.Parse(s)
		refuse(t, "Parse", a, e, api.ErrSyntax, s)
	}
}

func TestParseOfLongTexts(t *testing.T) {
	nines := func(n int) string { return strings.Repeat("9", n) }
	for _, s := range []string{nines(api.MaxText), nines(api.MaxText-2) + "/2", "-" + nines(api.MaxText-3) + "/2", "1/" + nines(api.MaxText-2), nines(2047) + "/1" + strings.Repeat("0", 2047)} {
		a, e := rational.Parse(s)
		if len(s) != api.MaxText || e != api.OK || value(a).RatString() != s {
			t.Error("the longest text", s[:5], e)
		}
	}
	// A text that is too long is not looked at.
	for _, s := range []string{nines(api.MaxText + 1), nines(api.MaxText-1) + "/2", "1/" + nines(api.MaxText-1), nines(api.MaxText) + "/", strings.Repeat("/", api.MaxText+1), strings.Repeat("x", api.MaxText+1), "2/4" + strings.Repeat(" ", api.MaxText)} {
		a, e := rational.Parse(s)
		refuse(t, "Parse", a, e, api.ErrTooLong, s[:5])
	}
	for _, s := range []string{strings.Repeat("x", api.MaxText), nines(api.MaxText-2) + "/3", nines(api.MaxText-1) + "/"} {
		a, e := rational.Parse(s)
		refuse(t, "Parse", a, e, api.ErrSyntax, s[:5])
	}
}

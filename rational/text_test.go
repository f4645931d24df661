package rational_test

import (
	"math/big"
	"strings"
	"testing"

	"quadform/api"
	"quadform/rational"
)

var (
	longest = strings.Repeat("9", api.MaxDigits)
	tooLong = "1" + strings.Repeat("0", api.MaxDigits)
)

// P2.6
func TestParse(t *testing.T) {
	for _, s := range []string{
		"0", "1", "-1", "-5", "3/4", "-3/4", "1/2", "-1/2", "7/3", "123456789012345678901234567890/11", "-10/4294967297", "18446744073709551617/18446744073709551616",
		longest, "-" + longest, "1/" + longest, "-1/" + longest, longest + "/2", "-" + longest + "/1" + strings.Repeat("0", api.MaxDigits-1),
	} {
		got, e := rational.Parse(s)
		if e != api.OK {
			t.Errorf("Parse(%.30q) returns error %d", s, e)
			continue
		}
		want, ok := new(big.Rat).SetString(s)
		if !ok {
			t.Fatal(s)
		}
		expect(t, got, want, "Parse", s)
	}
}

func expectError(t *testing.T, s string, want api.Errno) {
	t.Helper()
	if got, e := rational.Parse(s); e != want || !same(got, api.Rat{}) {
		t.Errorf("Parse(%.30q) = %v, %d, want error %d", s, got, e, want)
	}
}

// P2.6
func TestParseSyntax(t *testing.T) {
	for _, s := range []string{
		"", "/", "-", "-/", "//", "3/", "/3", "-/3", "3/-", "3/-4", "-3/-4", "3/-1", "3/-0", "0/-1", "3/+4", "+3/4", "+3", "3/04", "03/4", "-03/4", "00/4", "3/00", "-0", "-0/3", "-0/1",
		"1/2/3", "1//2", "1/2/", "/1/2", "1 /2", "1/ 2", " 1/2", "1/2 ", "1/2\n", "1\\2", "1:2", "1.5", "1.5/2", "1/2.5", "1e3", "0x1/2", "1_0/3", "a/2", "1/b", "1/2x", "--1/2", "-+1/2",
		"\x00", "1/2\x00", "\xff/2", "1/\xff", "1\u20442", "\u0661/2", "1/\u0662",
		tooLong + "/x", tooLong + "/", tooLong + "/-3", tooLong + "/-" + tooLong, tooLong + "/2/3", "x/" + tooLong, "/" + tooLong, "1/-" + tooLong, "1/0" + tooLong, tooLong + "x", "-0/" + tooLong,
	} {
		expectError(t, s, api.ErrSyntax)
	}
}

// P2.6
func TestParseTooLarge(t *testing.T) {
	for _, s := range []string{
		tooLong, "-" + tooLong, tooLong + "/2", "-" + tooLong + "/2", "1/" + tooLong, "-1/" + tooLong, tooLong + "/" + tooLong,
		tooLong + "/0", tooLong + "/1", "0/" + tooLong, "2/" + tooLong, tooLong + "/10",
	} {
		expectError(t, s, api.ErrTooLarge)
	}
}

// P2.6
func TestParseNotInLowestTerms(t *testing.T) {
	for _, s := range []string{
		"3/0", "-3/0", "0/0", "1/0", "0/1", "3/1", "-3/1", "0/5", "0/2", "6/4", "-6/4", "4/6", "2/2", "-2/2", "7/7", "10/5", "5/10", "4294967296/2", "18446744073709551616/340282366920938463463374607431768211456",
		longest + "/9", "3/" + longest, longest + "/" + longest, longest + "/1", longest + "/0",
	} {
		expectError(t, s, api.ErrArg)
	}
}

// textOf returns the text of v by package big.
func textOf(v *big.Rat) string {
	if v.IsInt() {
		return v.Num().String()
	}
	return v.String()
}

// P2.7
func TestFormat(t *testing.T) {
	for _, c := range []struct {
		num, den int64
		want     string
	}{{6, -4, "-3/2"}, {6, -3, "-2"}, {6, 0, "0"}, {0, -7, "0"}, {-1, -3, "1/3"}, {5, 1, "5"}, {-10, 1, "-10"}, {7, 7, "1"}, {100, 7, "100/7"}} {
		if got := rational.Format(small(c.num, c.den)); got != c.want {
			t.Errorf("Format(%d/%d) = %s, want %s", c.num, c.den, got, c.want)
		}
	}
	if got := rational.Format(api.Rat{}); got != "0" {
		t.Errorf("Format of the zero value is %s", got)
	}
	for _, a := range samples() {
		if got := rational.Format(a); got != textOf(value(a)) {
			t.Errorf("Format(%v) = %s, want %s", a, got, textOf(value(a)))
		}
	}
}

// P2.7: also numbers that Parse does not read.
func TestFormatOfLongNumbers(t *testing.T) {
	for _, s := range []string{tooLong, "-1/" + tooLong, "-" + tooLong + "/7", tooLong + "1/" + tooLong + "0", strings.Repeat("12", 3000) + "1/2"} {
		v, ok := new(big.Rat).SetString(s)
		if !ok {
			t.Fatal(s)
		}
		if got := rational.Format(canonicalRat(v)); got != s {
			t.Errorf("Format of %d bytes returns %d bytes: %.30s", len(s), len(got), got)
		}
	}
}

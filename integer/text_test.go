package integer_test

import (
	"strings"
	"testing"

	"quadform/api"
	"quadform/integer"
)

// P1.9
func TestParse(t *testing.T) {
	for _, s := range []string{
		"0", "1", "-1", "7", "-12", "10", "999999999", "1000000000", "1000000001", "4294967295", "4294967296", "-4294967297",
		"9223372036854775807", "9223372036854775808", "-9223372036854775808", "-9223372036854775809", "18446744073709551616",
		"1000000000000000000000000000000000000000", "-1234567890123456789012345678901234567890",
		strings.Repeat("9", api.MaxDigits), "1" + strings.Repeat("0", api.MaxDigits-1), "-" + strings.Repeat("7", api.MaxDigits),
	} {
		got, e := integer.Parse(s)
		if e != api.OK {
			t.Errorf("Parse(%.30q) returns error %d", s, e)
			continue
		}
		expect(t, got, decimal(t, s), "Parse", s)
	}
}

// P1.9
func TestParseSyntax(t *testing.T) {
	for _, s := range []string{
		"", "-", "--", "--1", "-0", "-00", "00", "007", "-07", "+", "+1", "-+1", "+-1", "1-", "1-2", " ", " 1", "1 ", "- 1", "1 2", "\t1", "1\n", "1\r\n",
		"1.0", ".", "1e5", "0x10", "1_000", "1,000", "12a", "a12", "/", ":", "1/", "1:", "\x00", "1\x00", "\xff", "1\xff", "\u0661", "\uff11", "1\u0661", "\u22121",
		strings.Repeat("1", api.MaxDigits+1) + "x", "x" + strings.Repeat("1", api.MaxDigits+1), "0" + strings.Repeat("1", api.MaxDigits+1),
		strings.Repeat("0", api.MaxDigits+1), "-" + strings.Repeat("1", api.MaxDigits) + "\xff", strings.Repeat("1", api.MaxDigits+1) + "-",
	} {
		if got, e := integer.Parse(s); e != api.ErrSyntax || !same(got, api.Int{}) {
			t.Errorf("Parse(%.30q) = %v, %d, want ErrSyntax", s, got, e)
		}
	}
}

// P1.9
func TestParseTooLarge(t *testing.T) {
	for _, s := range []string{
		strings.Repeat("9", api.MaxDigits+1), "1" + strings.Repeat("0", api.MaxDigits), "-1" + strings.Repeat("0", api.MaxDigits), strings.Repeat("5", 100000),
	} {
		if got, e := integer.Parse(s); e != api.ErrTooLarge || !same(got, api.Int{}) {
			t.Errorf("Parse of %d bytes = %v, %d, want ErrTooLarge", len(s), got, e)
		}
	}
}

// P1.10
func TestFormat(t *testing.T) {
	for _, a := range samples() {
		if got := integer.Format(a); got != value(a).String() {
			t.Errorf("Format(%v) = %s, want %v", a, got, value(a))
		}
	}
	for _, s := range []string{
		"-1", "10", "-100", "999999999", "1000000000", "-1000000000", "1000000001", "12000000000", "999999999999999999", "1000000000000000000", "-1000000000000000000000000000",
	} {
		if got := integer.Format(number(decimal(t, s))); got != s {
			t.Errorf("Format(%s) = %s", s, got)
		}
	}
}

// P1.10: also numbers that Parse does not read.
func TestFormatOfLongNumbers(t *testing.T) {
	for _, s := range []string{
		strings.Repeat("9", api.MaxDigits+1), "-1" + strings.Repeat("0", 3*api.MaxDigits), strings.Repeat("1234567890", 2000),
	} {
		if got := integer.Format(number(decimal(t, s))); got != s {
			t.Errorf("Format of %d bytes returns %d bytes: %.30s", len(s), len(got), got)
		}
	}
}

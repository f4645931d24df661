package rational

import (
	"strings"

	"quadform/api"
	"quadform/integer"
)

// Parse reads an integer, or a fraction in lowest terms that is not an integer.
func Parse(s string) (api.Rat, api.Errno) {
	above, below, slash := strings.Cut(s, "/")
	if !slash {
		return parseWhole(s)
	}
	num, numErr := integer.Parse(above)
	den, denErr := integer.Parse(below)
	switch {
	case numErr == api.ErrSyntax || denErr == api.ErrSyntax || below[0] == '-':
		return api.Rat{}, api.ErrSyntax
	case numErr != api.OK || denErr != api.OK:
		return api.Rat{}, api.ErrTooLarge
	case !lowestTerms(num, den):
		return api.Rat{}, api.ErrArg
	}
	return api.Rat{Num: num, Den: den}, api.OK
}

func parseWhole(s string) (api.Rat, api.Errno) {
	num, e := integer.Parse(s)
	if e != api.OK {
		return api.Rat{}, e
	}
	return Whole(num), api.OK
}

// lowestTerms reports whether num / den is in lowest terms and needs its denominator; den must not be negative.
func lowestTerms(num, den api.Int) bool {
	one := integer.Small(1)
	return integer.Cmp(den, one) > 0 && integer.Cmp(integer.Gcd(num, den), one) == 0
}

// Format returns a in lowest terms, without a denominator if a is an integer.
func Format(a api.Rat) string {
	lowest := Normalize(a)
	text := integer.Format(lowest.Num)
	if integer.Cmp(lowest.Den, integer.Small(1)) == 0 {
		return text
	}
	return text + "/" + integer.Format(lowest.Den)
}

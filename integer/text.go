package integer

import (
	"bytes"
	"slices"
	"strings"

	"quadform/api"
)

// Format divides by billions, the greatest power of 10 in a limb.
const (
	billion       = 1000000000
	billionDigits = 9
)

// Parse reads a decimal number.
func Parse(s string) (api.Int, api.Errno) {
	digits := strings.TrimPrefix(s, "-")
	neg := len(digits) < len(s)
	switch {
	case !natural(digits) || neg && digits == "0":
		return api.Int{}, api.ErrSyntax
	case len(digits) > api.MaxDigits:
		return api.Int{}, api.ErrTooLarge
	}
	return canonical(neg, limbsOfDigits(digits)), api.OK
}

// natural reports whether text is a decimal number without a sign.
func natural(text string) bool {
	if text == "" || text[0] == '0' && len(text) > 1 {
		return false
	}
	for _, c := range text {
		if c < '0' || c > '9' {
			return false
		}
	}
	return true
}

func limbsOfDigits(digits string) []uint32 {
	var limbs []uint32
	for _, c := range digits {
		limbs = timesPlus(limbs, 10, uint32(c-'0'))
	}
	return limbs
}

// Format returns the decimal digits of a.
func Format(a api.Int) string {
	rest := copyLimbs(trim(a.Mag))
	if len(rest) == 0 {
		return "0"
	}
	text := digitsFromLast(rest)
	if a.Neg {
		text = append(text, '-')
	}
	slices.Reverse(text)
	return string(text)
}

// digitsFromLast returns the decimal digits of rest, beginning with the units. It changes rest.
func digitsFromLast(rest []uint32) []byte {
	var text []byte
	for len(rest) > 0 {
		part := divideBy(rest, billion)
		rest = trim(rest)
		for range billionDigits {
			text = append(text, byte('0'+part%10))
			part /= 10
		}
	}
	return bytes.TrimRight(text, "0")
}

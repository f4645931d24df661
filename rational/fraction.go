package rational

import (
	"cmp"

	"quadform/api"
	"quadform/integer"
)

// fraction is a quotient with a positive denominator. It may have a common
// factor, and it may share memory with the arguments of a call: reduced and
// floor return new numbers.
type fraction struct {
	num, den api.Int
}

// quotient returns num / den, and 0 if den is 0.
func quotient(num, den api.Int) fraction {
	switch integer.Sign(den) {
	case 0:
		return fraction{num: integer.Small(0), den: integer.Small(1)}
	case -1:
		return fraction{num: integer.Neg(num), den: integer.Neg(den)}
	}
	return fraction{num: num, den: den}
}

func fractionOf(a api.Rat) fraction {
	return quotient(a.Num, a.Den)
}

func (f fraction) sign() int {
	return integer.Sign(f.num)
}

func (f fraction) negated() fraction {
	return fraction{num: integer.Neg(f.num), den: f.den}
}

// inverse returns 1 / f; f must not be 0.
func (f fraction) inverse() fraction {
	return quotient(f.den, f.num)
}

func (f fraction) floor() api.Int {
	whole, _, _ := integer.DivMod(f.num, f.den)
	return whole
}

// reduced returns f in lowest terms.
func (f fraction) reduced() api.Rat {
	common := integer.Gcd(f.num, f.den)
	num, _, _ := integer.DivMod(f.num, common)
	den, _, _ := integer.DivMod(f.den, common)
	return api.Rat{Num: num, Den: den}
}

func sum(total fraction, others ...fraction) fraction {
	for _, f := range others {
		total = fraction{
			num: integer.Add(integer.Mul(total.num, f.den), integer.Mul(f.num, total.den)),
			den: integer.Mul(total.den, f.den),
		}
	}
	return total
}

func product(total fraction, others ...fraction) fraction {
	for _, f := range others {
		total = fraction{num: integer.Mul(total.num, f.num), den: integer.Mul(total.den, f.den)}
	}
	return total
}

// compareBy compares a and b by a number that belongs to each of them.
func compareBy(key func(fraction) int, a, b fraction) int {
	return cmp.Compare(key(a), key(b))
}

package rational_test

import (
	"math"
	"math/big"
	"math/rand/v2"
	"slices"
	"testing"

	"quadform/api"
)

const ones = math.MaxUint32

func positive(limbs ...uint32) api.Int { return api.Int{Mag: limbs} }
func negative(limbs ...uint32) api.Int { return api.Int{Neg: true, Mag: limbs} }

// over returns the Rat with exactly these parts.
func over(num, den api.Int) api.Rat { return api.Rat{Num: num, Den: den} }

// number returns the canonical Int of v.
func number(v *big.Int) api.Int {
	a := api.Int{Neg: v.Sign() < 0}
	rest := new(big.Int).Abs(v)
	for rest.Sign() > 0 {
		a.Mag = append(a.Mag, uint32(rest.Uint64()))
		rest.Rsh(rest, 32)
	}
	return a
}

// small returns num / den as it stands, with limbs that end with zeros.
func small(num, den int64) api.Rat {
	x, y := number(big.NewInt(num)), number(big.NewInt(den))
	x.Mag, y.Mag = append(x.Mag, 0), append(y.Mag, 0, 0)
	return over(x, y)
}

// canonicalRat returns the canonical Rat of v.
func canonicalRat(v *big.Rat) api.Rat {
	return over(number(v.Num()), number(v.Denom()))
}

// integerOf returns the integer that a denotes, by the definition of api.Int.
func integerOf(a api.Int) *big.Int {
	v := new(big.Int)
	for i := len(a.Mag) - 1; i >= 0; i-- {
		v.Lsh(v, 32)
		v.Add(v, big.NewInt(int64(a.Mag[i])))
	}
	if a.Neg {
		v.Neg(v)
	}
	return v
}

// value returns the number that a denotes, by the definition of api.Rat.
func value(a api.Rat) *big.Rat {
	den := integerOf(a.Den)
	if den.Sign() == 0 {
		return new(big.Rat)
	}
	return new(big.Rat).SetFrac(integerOf(a.Num), den)
}

func sameInt(a, b api.Int) bool {
	return a.Neg == b.Neg && slices.Equal(a.Mag, b.Mag)
}

func same(a, b api.Rat) bool {
	return sameInt(a.Num, b.Num) && sameInt(a.Den, b.Den)
}

// expect checks that got is the canonical Rat of want.
func expect(t *testing.T, got api.Rat, want *big.Rat, what ...any) {
	t.Helper()
	if !same(got, canonicalRat(want)) {
		t.Errorf("%v: got %v, want %v", what, got, want)
	}
}

// expectInt checks that got is the canonical Int of want.
func expectInt(t *testing.T, got api.Int, want *big.Int, what ...any) {
	t.Helper()
	if !sameInt(got, number(want)) {
		t.Errorf("%v: got %v, want %v", what, got, want)
	}
}

// expectNone checks that there is no value: ok is false and got is the zero value.
func expectNone(t *testing.T, got api.Rat, ok bool, what ...any) {
	t.Helper()
	if ok || !same(got, api.Rat{}) {
		t.Errorf("%v: got %v, %v, want no value", what, got, ok)
	}
}

// zeros returns Ints that denote 0.
func zeros() []api.Int {
	return []api.Int{positive(), negative(), positive(0), negative(0, 0)}
}

// samples returns Rats with parts of both signs, most of them not canonical, 0 among the denominators.
func samples() []api.Rat {
	nums := append(zeros(),
		positive(1), negative(1, 0), positive(2), negative(3), positive(6, 0, 0), negative(7), positive(0, 1), negative(ones, ones),
		positive(0, 0, 1, 0), negative(12, 5, 0, 9, 1<<31),
	)
	dens := []api.Int{
		positive(), negative(0), positive(0, 0), positive(1), negative(1), positive(2, 0), negative(2), positive(3), positive(4),
		negative(6, 0), positive(0, 3), negative(ones, ones), positive(12, 5, 0, 9, 1<<31),
	}
	var list []api.Rat
	for _, num := range nums {
		for _, den := range dens {
			list = append(list, over(num, den))
		}
	}
	return list
}

// forPairs calls f with all pairs of samples.
func forPairs(f func(a, b api.Rat)) {
	list := samples()
	for _, a := range list {
		for _, b := range list {
			f(a, b)
		}
	}
}

// randomInt returns an integer with up to size limbs, in which 0 and small limbs are frequent.
func randomInt(random *rand.Rand, size int) api.Int {
	a := api.Int{Neg: random.IntN(2) == 0, Mag: make([]uint32, random.IntN(size+1))}
	for i := range a.Mag {
		a.Mag[i] = random.Uint32() >> random.IntN(33)
	}
	return a
}

func randomRat(random *rand.Rand) api.Rat {
	return over(randomInt(random, 4), randomInt(random, 4))
}

package integer_test

import (
	"math"
	"math/big"
	"math/rand/v2"
	"slices"
	"testing"

	"quadform/api"
)

const ones = math.MaxUint32

// value returns the integer that a denotes, by the definition of api.Int.
func value(a api.Int) *big.Int {
	v := new(big.Int)
	for i := len(a.Mag) - 1; i >= 0; i-- {
		v.Lsh(v, 32)
		v.Add(v, big.NewInt(int64(a.Mag[i])))
	}
	if a.Neg {
		v.Neg(v)
	}
	return v
}

func isCanonical(a api.Int) bool {
	if len(a.Mag) == 0 {
		return !a.Neg
	}
	return a.Mag[len(a.Mag)-1] != 0
}

// expect checks that got is the canonical Int of want.
func expect(t *testing.T, got api.Int, want *big.Int, what ...any) {
	t.Helper()
	if !isCanonical(got) || value(got).Cmp(want) != 0 {
		t.Errorf("%v: got %v, want %v", what, got, want)
	}
}

func positive(limbs ...uint32) api.Int { return api.Int{Mag: limbs} }
func negative(limbs ...uint32) api.Int { return api.Int{Neg: true, Mag: limbs} }

func same(a, b api.Int) bool {
	return a.Neg == b.Neg && slices.Equal(a.Mag, b.Mag)
}

// decimal reads a number by package big.
func decimal(t *testing.T, s string) *big.Int {
	t.Helper()
	v, ok := new(big.Int).SetString(s, 10)
	if !ok {
		t.Fatal(s)
	}
	return v
}

// number returns the canonical Int of v.
func number(v *big.Int) api.Int {
	a := api.Int{Neg: v.Sign() < 0}
	rest := new(big.Int).Abs(v)
	for rest.Sign() > 0 {
		a.Mag = append(a.Mag, uint32(rest.Uint64()))
		rest.Rsh(rest, 32)
	}
	return a
}

// samples returns integers of both signs from 0 to nine limbs, some of them not canonical.
func samples() []api.Int {
	mags := [][]uint32{
		nil, {0}, {0, 0, 0},
		{1}, {1, 0}, {2}, {3}, {5}, {10}, {999999999}, {1000000000}, {1<<31 - 1}, {1 << 31}, {ones}, {ones, 0, 0},
		{0, 1}, {1, 1}, {ones, 1<<31 - 1}, {0, 1 << 31}, {1, 1 << 31}, {ones - 1, 1<<31 - 1}, {ones, ones}, {7, 0, 0},
		{0, 0, 1}, {1, 0, 1}, {0, ones, 0, 1}, {ones, ones, ones}, {0, 0, 1 << 31, 0}, {ones, 0, 0, 0, 1},
	}
	random := rand.New(rand.NewPCG(1, 2))
	for size := range 10 {
		mag := make([]uint32, size)
		for i := range mag {
			mag[i] = random.Uint32()
		}
		mags = append(mags, mag)
	}
	var list []api.Int
	for _, mag := range mags {
		list = append(list, positive(mag...), negative(mag...))
	}
	return list
}

// forPairs calls f with all pairs of samples.
func forPairs(f func(a, b api.Int)) {
	for _, a := range samples() {
		for _, b := range samples() {
			f(a, b)
		}
	}
}

// randomInt returns an integer with up to size limbs, in which runs of 0 and of 1 are frequent.
func randomInt(random *rand.Rand, size int) api.Int {
	a := api.Int{Neg: random.IntN(2) == 0, Mag: make([]uint32, random.IntN(size+1))}
	for i := range a.Mag {
		switch random.IntN(4) {
		case 0:
			a.Mag[i] = 0
		case 1:
			a.Mag[i] = ones
		default:
			a.Mag[i] = random.Uint32() >> random.IntN(32)
		}
	}
	return a
}

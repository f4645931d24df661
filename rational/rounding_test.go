package rational_test

import (
	"math/big"
	"math/rand/v2"
	"testing"

	"quadform/api"
	"quadform/rational"
)

// floorOf returns the floor of v; the division of package big by a positive number rounds down.
func floorOf(v *big.Rat) *big.Int {
	return new(big.Int).Div(v.Num(), v.Denom())
}

// P2.4
func TestRoundingOfSmallNumbers(t *testing.T) {
	for _, c := range []struct{ num, den, floor, nearest int64 }{
		{-7, 2, -4, -3}, {7, 2, 3, 4}, {7, -2, -4, -3}, {-7, -2, 3, 4}, {1, 2, 0, 1}, {-1, 2, -1, 0}, {-3, 2, -2, -1}, {3, -2, -2, -1}, {2, 4, 0, 1},
		{5, -3, -2, -2}, {4, -3, -2, -1}, {5, 3, 1, 2}, {4, 3, 1, 1}, {1, 3, 0, 0}, {-1, 3, -1, 0}, {-2, 3, -1, -1},
		{6, -3, -2, -2}, {0, -3, 0, 0}, {9, 0, 0, 0}, {-9, 0, 0, 0}, {-5, 1, -5, -5}, {49, 100, 0, 0}, {51, 100, 0, 1}, {-49, 100, -1, 0}, {-51, 100, -1, -1},
	} {
		a := small(c.num, c.den)
		expectInt(t, rational.Floor(a), big.NewInt(c.floor), "Floor", c.num, c.den)
		expectInt(t, rational.Nearest(a), big.NewInt(c.nearest), "Nearest", c.num, c.den)
	}
}

func expectRounding(t *testing.T, a api.Rat) {
	t.Helper()
	expectInt(t, rational.Floor(a), floorOf(value(a)), "Floor", a)
	expectInt(t, rational.Nearest(a), floorOf(new(big.Rat).Add(value(a), big.NewRat(1, 2))), "Nearest", a)
}

// P2.4
func TestRounding(t *testing.T) {
	for _, a := range samples() {
		expectRounding(t, a)
	}
	random := rand.New(rand.NewPCG(1, 2))
	for range 20000 {
		expectRounding(t, randomRat(random))
	}
}

// P2.4: halves, and the numbers next to them, with long numerators.
func TestRoundingNearHalves(t *testing.T) {
	random := rand.New(rand.NewPCG(3, 4))
	tiny := new(big.Rat).SetFrac(big.NewInt(1), new(big.Int).Lsh(big.NewInt(1), 200))
	for range 2000 {
		whole := new(big.Rat).SetInt(integerOf(randomInt(random, 4)))
		half := new(big.Rat).Add(whole, big.NewRat(1, 2))
		expectRounding(t, canonicalRat(half))
		expectRounding(t, canonicalRat(new(big.Rat).Add(half, tiny)))
		expectRounding(t, canonicalRat(new(big.Rat).Sub(half, tiny)))
		expectRounding(t, canonicalRat(new(big.Rat).Sub(whole, tiny)))
	}
}

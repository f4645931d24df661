package lll_test

import (
	"math/big"
	"math/rand/v2"
	"testing"

	"quadform/lll"
)

// power returns a to the n-th power.
func power(a int64, n int) *big.Int {
	return new(big.Int).Exp(big.NewInt(a), big.NewInt(int64(n)), nil)
}

// atMost reports whether a is at most the product of the factors.
func atMost(a *big.Int, factors ...*big.Int) bool {
	product := big.NewInt(1)
	for _, factor := range factors {
		product.Mul(product, factor)
	}
	return a.Cmp(product) <= 0
}

// expectShort checks the bounds of P8.4 for a reduced form of a lattice with this determinant and this least norm.
func expectShort(t *testing.T, h ints, det *big.Int, least int64) {
	t.Helper()
	n := len(h)
	// The bound with the n-th root, to the power 2n.
	if !atMost(power(h[0][0], 2*n), power(2, n*(n-1)), det, det) {
		t.Errorf("the first entry of %v is too great for its determinant", h)
	}
	if h[0][0] < least || !atMost(big.NewInt(h[0][0]), power(2, n-1), big.NewInt(least)) {
		t.Errorf("the first entry of %v is wrong for the least norm %d", h, least)
	}
	product := big.NewInt(1)
	for i := range h {
		product.Mul(product, big.NewInt(h[i][i]))
	}
	if !atMost(product, power(2, n*(n-1)/2), det) {
		t.Errorf("the diagonal of %v is too great", h)
	}
}

// P8.4
func TestFirstEntriesAndDiagonals(t *testing.T) {
	random := rand.New(rand.NewPCG(13, 14))
	for _, l := range lattices() {
		g := valuesOfInts(l.g)
		det := determinant(g)
		for _, digits := range []int{0, 1, 3, 12} {
			h := expectReduce(t, changed(g, unimodular(random, len(g), digits)))
			expectShort(t, h, det, l.least)
		}
	}
}

// P8.4: the form of a reduced form, of which nothing else is known, has the same determinant and the same least norm.
func TestReduceTwice(t *testing.T) {
	for _, l := range lattices() {
		h := expectReduce(t, valuesOfInts(l.g))
		again := expectReduce(t, valuesOfInts(h))
		expectShort(t, again, determinant(valuesOfInts(l.g)), l.least)
		if !lll.IsReduced(again) {
			t.Errorf("%v is not reduced", again)
		}
	}
}

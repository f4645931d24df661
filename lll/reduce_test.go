package lll_test

import (
	"math/big"
	"math/rand/v2"
	"slices"
	"testing"

	"quadform/api"
	"quadform/lll"
)

// isUnit reports whether v is 1 or -1.
func isUnit(v *big.Int) bool {
	return v.CmpAbs(big.NewInt(1)) == 0
}

// expectReduce checks Reduce of a Gram matrix with a determinant of at most MaxDet, and returns the reduced form.
func expectReduce(t *testing.T, g values) ints {
	t.Helper()
	h, base, e := lll.Reduce(intsOf(g))
	if e != api.OK || !reducedByDefinition(h) {
		t.Fatalf("Reduce of %v: %v, %d", g, h, e)
	}
	for _, row := range base {
		if !slices.ContainsFunc(row, func(a api.Int) bool { return !isCanonical(a) }) {
			continue
		}
		t.Errorf("Reduce of %v: the base change %v is not canonical", g, base)
	}
	m := valuesOf(base)
	if len(m) != len(g) || len(m[0]) != len(g) || !isUnit(determinant(m)) || !same(changed(g, m), valuesOfInts(h)) {
		t.Fatalf("Reduce of %v: %v is no base change to %v", g, m, h)
	}
	return h
}

// P8.2
func TestReduce(t *testing.T) {
	for _, g := range forms() {
		expectReduce(t, g)
	}
}

// P8.2: all small matrices.
func TestReduceOfTinyMatrices(t *testing.T) {
	count := 0
	check := func(l ints) {
		g := valuesOfInts(l)
		for k := range g {
			if minorOf(g, k+1, k).Sign() <= 0 {
				return
			}
		}
		count++
		expectReduce(t, g)
	}
	forSymmetric(1, 1, 50, 0, check)
	forSymmetric(2, 1, 15, 14, check)
	forSymmetric(3, 1, 4, 3, check)
	if count < 2000 {
		t.Errorf("only %d matrices are positive definite", count)
	}
}

// P8.2: lattices with a single reduced form.
func TestReduceByHand(t *testing.T) {
	for _, c := range []struct{ g, h ints }{
		{ints{{1}}, unit(1)}, {ints{{10000}}, diagonal(10000)},
		{unit(2), unit(2)}, {ints{{1, 1}, {1, 2}}, unit(2)}, {ints{{2, 1}, {1, 1}}, unit(2)}, {ints{{13, 8}, {8, 5}}, unit(2)}, {ints{{13, -8}, {-8, 5}}, unit(2)}, {ints{{1000001, 1000}, {1000, 1}}, unit(2)},
		{ints{{5, 0}, {0, 1}}, diagonal(1, 5)}, {ints{{2, 1}, {1, 5}}, ints{{2, 1}, {1, 5}}}, {ints{{10000, 0}, {0, 1}}, diagonal(1, 10000)}, {ints{{10001, 1}, {1, 1}}, diagonal(1, 10000)},
	} {
		h := expectReduce(t, valuesOfInts(c.g))
		if len(h) == 2 && h[0][1] != c.h[0][1] { // the sign is free
			h[0][1], h[1][0] = -h[0][1], -h[1][0]
		}
		if !slices.EqualFunc(h, c.h, slices.Equal) {
			t.Errorf("Reduce of %v: %v, want %v", c.g, h, c.h)
		}
	}
}

// P8.2: bases in which each step of the reduction is as short as possible, and bases with one long step.
func TestReduceOfLongBinaryForms(t *testing.T) {
	for _, steps := range []int{1, 2, 10, 100, 1000, 4700} {
		a, b := big.NewInt(0), big.NewInt(1)
		for range steps {
			a, b = b, new(big.Int).Add(a, b)
		}
		c := new(big.Int).Add(a, b)
		base := values{{a, b}, {b, c}}
		for _, g := range []ints{unit(2), {{2, 1}, {1, 2}}, diagonal(100, 100), diagonal(1, 10000), {{5, 2}, {2, 8}}} {
			expectReduce(t, changed(valuesOfInts(g), base))
			expectReduce(t, changed(valuesOfInts(g), turned(base)))
		}
		shear := values{{big.NewInt(1), c}, {big.NewInt(0), big.NewInt(-1)}}
		expectReduce(t, changed(valuesOfInts(diagonal(7, 11)), shear))
		expectReduce(t, changed(valuesOfInts(diagonal(7, 11)), turned(shear)))
	}
}

// P8.2: entries of up to 2000 digits.
func TestReduceOfLongEntries(t *testing.T) {
	random := rand.New(rand.NewPCG(7, 8))
	for _, l := range lattices() {
		n := len(l.g)
		digits := []int{0, 0, 500, 400, 200, 100, 60, 40, 30}[n]
		expectReduce(t, changed(valuesOfInts(l.g), times(unimodular(random, n, digits), unimodular(random, n, digits))))
	}
}

// expectTooLarge checks that there is ErrTooLarge, and no result.
func expectTooLarge(t *testing.T, g [][]api.Int) {
	t.Helper()
	if h, base, e := lll.Reduce(g); e != api.ErrTooLarge || len(h)+len(base) > 0 {
		t.Errorf("Reduce of %v: %v, %v, %d", g, h, base, e)
	}
}

// P8.2: the greatest determinant, and greater ones.
func TestReduceErrTooLarge(t *testing.T) {
	random := rand.New(rand.NewPCG(9, 10))
	word := new(big.Int).Lsh(big.NewInt(1), 64)
	long := new(big.Int).Exp(big.NewInt(10), big.NewInt(3000), nil)
	for n := 1; n <= api.MaxDim; n++ {
		for _, digits := range []int{0, 1, 10} {
			g := valuesOfInts(unit(n))
			place := random.IntN(n)
			g[place][place] = big.NewInt(api.MaxDet)
			expectReduce(t, changed(g, unimodular(random, n, digits)))
			for _, det := range []*big.Int{big.NewInt(api.MaxDet + 1), big.NewInt(1 << 32), word, new(big.Int).Add(word, big.NewInt(1)), long} {
				g[place][place] = det
				expectTooLarge(t, intsOf(changed(g, unimodular(random, n, digits))))
			}
		}
	}
	expectReduce(t, valuesOfInts(ints{{101, 10}, {10, 100}}))
	for _, g := range []ints{{{10001}}, {{101, 0}, {0, 100}}, {{101, 9}, {9, 100}}, multiple(4, unit(8)), {{1 << 62}}, {{1 << 62, 1}, {1, 1 << 62}}, {{1 << 60, 1 << 30}, {1 << 30, 2}}} {
		expectTooLarge(t, of(g))
	}
}

// P8.2: the error of the Gram matrix comes first.
func TestReduceErrorsOfForm(t *testing.T) {
	for _, c := range wrongs() {
		if h, base, e := lll.Reduce(c.g); e != c.e || len(h)+len(base) > 0 {
			t.Errorf("Reduce of %v: %v, %v, %d, want the error %d", c.g, h, base, e, c.e)
		}
	}
}

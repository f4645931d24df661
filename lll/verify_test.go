package lll_test

import (
	"math/big"
	"math/rand/v2"
	"testing"

	"quadform/api"
	"quadform/lll"
)

// expectVerify checks the error that Verify returns.
func expectVerify(t *testing.T, g [][]api.Int, h ints, base [][]api.Int, want api.Errno) {
	t.Helper()
	if e := lll.Verify(g, h, base); e != want {
		t.Errorf("Verify of %v, %v, %v: %d, want %d", g, h, base, e, want)
	}
}

// expectProof checks Verify of a Gram matrix, a reduced form and a square matrix of the same size, and returns whether they fit.
func expectProof(t *testing.T, g values, h ints, base values) bool {
	t.Helper()
	fits := isUnit(determinant(base)) && same(changed(g, base), valuesOfInts(h))
	want := api.ErrProof
	if fits {
		want = api.OK
	}
	expectVerify(t, intsOf(g), h, intsOf(base), want)
	return fits
}

// P8.3: every result of Reduce is accepted, also with the sign of one vector changed; with another entry it is not.
func TestVerifyOfReduce(t *testing.T) {
	random := rand.New(rand.NewPCG(11, 12))
	refused := 0
	for _, g := range forms() {
		h, result, _ := lll.Reduce(intsOf(g))
		expectVerify(t, intsOf(g), h, result, api.OK)
		base := valuesOf(result)
		i, j := random.IntN(len(h)), random.IntN(len(h))
		for k := range base {
			base[k][j].Neg(base[k][j])
			if k != j {
				h[k][j], h[j][k] = -h[k][j], -h[j][k]
			}
		}
		if !expectProof(t, g, h, base) {
			t.Errorf("%v is no base change from %v to %v", base, g, h)
		}
		for range 5 {
			base[i][j].Add(base[i][j], big.NewInt(1))
			if !expectProof(t, g, h, base) {
				refused++
			}
		}
	}
	if refused < 500 {
		t.Errorf("only %d base changes are refused", refused)
	}
}

// P8.3: all matrices with small entries.
func TestVerifyOfSmallBases(t *testing.T) {
	reduced := []ints{unit(2), {{2, 1}, {1, 2}}, {{2, -1}, {-1, 2}}, diagonal(1, 2), {{2, 1}, {1, 3}}, diagonal(4, 4), {{4, 2}, {2, 3}}, {{3, 1}, {1, 3}}}
	for _, g := range []ints{unit(2), {{2, 1}, {1, 2}}, {{1, 1}, {1, 2}}, {{5, 3}, {3, 2}}, diagonal(2, 1), {{4, 2}, {2, 3}}} {
		accepted := 0
		for _, h := range reduced {
			for code := range 5 * 5 * 5 * 5 {
				entry := func(place int) *big.Int { return big.NewInt(int64(code/place%5 - 2)) }
				if expectProof(t, valuesOfInts(g), h, values{{entry(1), entry(5)}, {entry(25), entry(125)}}) {
					accepted++
				}
			}
		}
		if accepted < 4 {
			t.Errorf("%v: %d base changes are accepted", g, accepted)
		}
	}
}

// P8.3: t'gt = h with a reduced form h, but t is not unimodular.
func TestVerifyOfSublattices(t *testing.T) {
	for n := 1; n <= api.MaxDim; n++ {
		for _, factor := range []int64{-100, -2, 0, 2, 3, 100} {
			base, h := unit(n), unit(n)
			base[n-1][n-1], h[n-1][n-1] = factor, max(1, factor*factor)
			expectVerify(t, of(unit(n)), h, of(base), api.ErrProof)
		}
		expectVerify(t, of(unit(n)), unit(n), of(zeros(n, n)), api.ErrProof)
	}
	expectVerify(t, of(unit(2)), ints{{4, 0}, {0, 4}}, of(ints{{2, 0}, {0, 2}}), api.ErrProof)
	expectVerify(t, of(unit(2)), ints{{2, 0}, {0, 2}}, of(ints{{1, 1}, {1, -1}}), api.ErrProof)
	expectVerify(t, of(unit(2)), ints{{5, 0}, {0, 5}}, of(ints{{2, -1}, {1, 2}}), api.ErrProof)
	expectVerify(t, of(unit(4)), multiple(2, unit(4)), of(ints{{1, 1, 0, 0}, {1, -1, 0, 0}, {0, 0, 1, 1}, {0, 0, 1, -1}}), api.ErrProof)
	expectVerify(t, of(ints{{20000}}), ints{{5000}}, of(ints{{1}}), api.ErrProof)
	expectVerify(t, of(ints{{40000}}), ints{{10000}}, of(ints{{0}}), api.ErrProof)
}

// P8.3: the first error is the one that is returned. A form of a determinant beyond MaxDet is no error by itself.
func TestVerifyErrors(t *testing.T) {
	notReduced := []ints{nil, {}, {{}}, {{0}}, {{10001}}, {{1, 1}, {1, 2}}, {{5, 0}, {0, 1}}, {{1, 0}}, {{1}, {0}}, {{1, 0}, {1, 1}}, {{-1, 0}, {0, 1}}, unit(9), diagonal(101, 100)}
	reduced := []ints{{{1}}, unit(2), {{2, 1}, {1, 2}}, unit(3), diagonal(1, 1, 5), unit(7), unit(8)}
	bases := []ints{nil, {}, {{}}, {nil}, {{1}}, {{0}}, {{1, 0}}, {{1}, {0}}, {{1, 0}, {0}}, unit(2), zeros(2, 2), unit(3), zeros(3, 2), zeros(2, 3), unit(8), unit(9), unit(16), unit(17), zeros(1000, 2)}
	for _, base := range bases {
		for _, h := range append(notReduced, reduced...) {
			for _, c := range wrongs() {
				expectVerify(t, c.g, h, of(base), c.e)
			}
		}
		for _, g := range []ints{{{1}}, {{7}}, unit(2), {{1, 1}, {1, 2}}, diagonal(200, 200), unit(3), unit(8)} {
			for _, h := range notReduced {
				expectVerify(t, of(g), h, of(base), api.ErrReduced)
			}
			for _, h := range reduced {
				if len(h) != len(g) || !square(base, len(g)) {
					expectVerify(t, of(g), h, of(base), api.ErrShape)
				} else {
					expectProof(t, valuesOfInts(g), h, valuesOfInts(base))
				}
			}
		}
	}
}

// square reports whether l has n rows of n entries each.
func square(l ints, n int) bool {
	for _, row := range l {
		if len(row) != n {
			return false
		}
	}
	return len(l) == n
}

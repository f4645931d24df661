package bareiss_test

import (
	"math"
	"math/big"
	"math/rand/v2"
	"slices"
	"testing"

	"quadform/api"
	"quadform/bareiss"
	"quadform/integer"
	"quadform/matrix"
)

// expectDefinite checks Definite for a square matrix.
func expectDefinite(t *testing.T, m [][]api.Int) {
	t.Helper()
	want := matrix.Equal(m, must(matrix.Transpose(m)))
	if slices.ContainsFunc(leadingMinors(m), func(d *big.Rat) bool { return d.Sign() <= 0 }) {
		want = false
	}
	if got := bareiss.Definite(m); got != want {
		t.Fatalf("Definite of %v: got %v", m, got)
	}
}

// P4.5
func TestDefinite(t *testing.T) {
	for _, m := range squares() {
		expectDefinite(t, m)
	}
	forTinyMatrices(func(m [][]api.Int) {
		expectDefinite(t, m)
		expectDefinite(t, symmetric(m))
	})
}

// P4.5: the answers themselves.
func TestDefiniteByHand(t *testing.T) {
	for _, l := range []ints{
		{{1}}, {{math.MaxInt64}}, {{2, 1}, {1, 2}}, {{2, -1}, {-1, 2}}, {{1, 0}, {0, 1}}, {{1, 1000000}, {1000000, 1000000000001}}, {{2, 1, 0}, {1, 2, 1}, {0, 1, 2}}, {{2, 1, 1, 1}, {1, 2, 1, 1}, {1, 1, 2, 1}, {1, 1, 1, 2}},
	} {
		if !bareiss.Definite(of(l)) {
			t.Errorf("%v is not definite", l)
		}
	}
	for _, l := range []ints{
		{{0}}, {{-1}}, {{math.MinInt64}}, {{1, 1}, {1, 1}}, {{0, 0}, {0, 0}}, {{-1, 0}, {0, -1}}, {{1, 2}, {2, 1}}, {{1, 0}, {0, -1}}, {{-1, 0}, {0, 1}}, {{0, 0}, {0, 1}}, {{0, 1}, {1, 0}}, {{1, 0}, {0, 0}}, {{1, 1000000}, {1000000, 1000000000000}},
		{{2, 1}, {0, 2}}, {{2, 0}, {1, 2}}, {{2, 1}, {-1, 2}}, {{1, 1, 0}, {1, 1, 0}, {0, 0, 1}}, {{1, 1, 1}, {1, 1, 2}, {1, 2, 1}}, {{0, 0, 0}, {0, 1, 0}, {0, 0, 1}}, {{-1, 0, 0}, {0, -1, 0}, {0, 0, 1}}, {{0, 1, 0}, {1, 0, 0}, {0, 0, -1}}, {{2, 1, 1, 1}, {1, 2, 1, 1}, {1, 1, 2, 1}, {1, 1, 1, -2}},
	} {
		if bareiss.Definite(of(l)) {
			t.Errorf("%v is definite", l)
		}
	}
}

// P4.5: matrices of all sizes; one that is definite is not so any more with other entries at one place.
func TestDefiniteOfAllSizes(t *testing.T) {
	random := rand.New(rand.NewPCG(13, 14))
	for n := 1; n <= api.MaxSize; n++ {
		for _, m := range [][][]api.Int{gram(smallMatrix(random, n, n, 3)), gram(longMatrix(random, 2, n, 3))} {
			if !bareiss.Definite(m) {
				t.Errorf("%v is not definite", m)
			}
			i, j := random.IntN(n), random.IntN(n)
			entry := m[i][j]
			m[i][j] = integer.Add(entry, integer.Small(1))
			if i != j && bareiss.Definite(m) {
				t.Errorf("%v is definite", m)
			}
			m[i][j] = entry
			m[i][i] = integer.Small(0)
			if bareiss.Definite(m) {
				t.Errorf("%v is definite", m)
			}
		}
	}
}

// P4.5: m'm is definite only if the columns of m are independent.
func TestDefiniteOfDependentColumns(t *testing.T) {
	random := rand.New(rand.NewPCG(15, 16))
	for n := 2; n <= api.MaxSize; n++ {
		for _, rank := range []int{0, 1, n - 1} {
			m := dependent(random, n, n, rank)
			if bareiss.Definite(must(matrix.Mul(must(matrix.Transpose(m)), m))) {
				t.Errorf("m'm is definite for %v", m)
			}
		}
	}
}

// P4.5: entries are compared as integers.
func TestDefiniteNotCanonical(t *testing.T) {
	m := [][]api.Int{{integer.Small(2), small(1)}, {integer.Small(1), small(2)}}
	if !bareiss.Definite(m) || !bareiss.Definite([][]api.Int{{integer.Small(1), small(0)}, {{}, integer.Small(1)}}) {
		t.Error("a definite matrix of numbers that are not canonical is refused")
	}
	m[0][1].Neg = true
	if bareiss.Definite(m) {
		t.Error("1 and -1 are taken to be equal")
	}
}

// P4.5
func TestDefiniteNotSquare(t *testing.T) {
	for _, l := range append(notSquare(), ints{{1, 1}, {1, 2}, {1, 2}}, ints{{1, 1, 1}, {1, 2, 2}}) {
		if bareiss.Definite(of(l)) {
			t.Errorf("%v is definite", l)
		}
	}
}

package bareiss_test

import (
	"math/bits"
	"math/rand/v2"
	"testing"

	"quadform/api"
	"quadform/bareiss"
	"quadform/integer"
	"quadform/matrix"
)

// expectRank checks Rank for a valid matrix and for its transposed matrix.
func expectRank(t *testing.T, m [][]api.Int) {
	t.Helper()
	want, _ := rankAndDet(fractionsOf(m))
	for _, a := range [][][]api.Int{m, must(matrix.Transpose(m))} {
		if got, ok := bareiss.Rank(a); got != want || !ok {
			t.Fatalf("Rank of %v: got %d, %v, want %d", a, got, ok, want)
		}
	}
}

// P4.3
func TestRank(t *testing.T) {
	for _, m := range squares() {
		expectRank(t, m)
	}
	forTinyMatrices(func(m [][]api.Int) {
		expectRank(t, m)
		expectRank(t, m[:2])
		expectRank(t, m[:1])
	})
}

// P4.3: matrices of every shape and every rank.
func TestRankOfDependentRows(t *testing.T) {
	random := rand.New(rand.NewPCG(3, 4))
	for rows := 1; rows <= api.MaxSize; rows++ {
		for _, cols := range []int{1, 2, 3, 7, api.MaxSize} {
			for rank := range min(rows, cols) + 1 {
				expectRank(t, dependent(random, rows, cols, rank))
			}
			expectRank(t, longMatrix(random, rows, cols, 3))
		}
	}
}

// P4.3: the numbers themselves, some of them with pivots at the far end only.
func TestRankByHand(t *testing.T) {
	far := zeros(api.MaxSize, api.MaxSize)
	far[api.MaxSize-1][api.MaxSize-1] = -1
	for _, c := range []struct {
		l    ints
		want int
	}{
		{ints{{0}}, 0}, {zeros(2, 3), 0}, {zeros(16, 16), 0}, {zeros(1, 16), 0}, {ints{{-5}}, 1}, {far, 1}, {ints{{0, 0, 1}, {0, 2, 0}}, 2}, {ints{{1, 2, 3, 4}}, 1}, {ints{{0}, {0}, {7}}, 1}, {ints{{1, 2}, {3, 4}, {5, 6}, {7, 8}}, 2},
		{ints{{1, 2, 3}, {4, 5, 6}, {7, 8, 9}}, 2}, {ints{{0, 1}, {1, 0}}, 2}, {ints{{1, 2}, {2, 4}}, 1}, {ints{{0, 0, 0}, {0, 0, 0}, {0, 0, 3}, {0, 0, 4}}, 1}, {ints{{0, 0, 0, 1}, {0, 0, 0, 2}, {1, 0, 0, 0}}, 2},
	} {
		if got, ok := bareiss.Rank(of(c.l)); got != c.want || !ok {
			t.Errorf("Rank of %v: got %d, %v, want %d", c.l, got, ok, c.want)
		}
	}
}

// chosen returns the lists of size numbers below n, in ascending order.
func chosen(n, size int) [][]int {
	var lists [][]int
	for set := range 1 << n {
		if bits.OnesCount(uint(set)) != size {
			continue
		}
		var list []int
		for i := range n {
			if set>>i&1 == 1 {
				list = append(list, i)
			}
		}
		lists = append(lists, list)
	}
	return lists
}

// hasMinor reports whether some minor of this size is not 0.
func hasMinor(m [][]api.Int, size int) bool {
	for _, rows := range chosen(len(m), size) {
		for _, cols := range chosen(len(m[0]), size) {
			if integer.Sign(must(matrix.Minor(m, rows, cols))) != 0 {
				return true
			}
		}
	}
	return false
}

// P4.3: the definition by minors.
func TestRankByMinors(t *testing.T) {
	random := rand.New(rand.NewPCG(5, 6))
	for _, shape := range [][2]int{{1, 1}, {2, 4}, {4, 3}, {4, 4}, {5, 3}} {
		for rank := range min(shape[0], shape[1]) + 1 {
			m := dependent(random, shape[0], shape[1], rank)
			want := 0
			for want < min(shape[0], shape[1]) && hasMinor(m, want+1) {
				want++
			}
			if got, ok := bareiss.Rank(m); got != want || !ok {
				t.Errorf("Rank of %v: got %d, %v, want %d", m, got, ok, want)
			}
		}
	}
}

// P4.3
func TestRankNotValid(t *testing.T) {
	for _, l := range notValid() {
		if got, ok := bareiss.Rank(of(l)); got != 0 || ok {
			t.Errorf("Rank of %v: got %d, %v", l, got, ok)
		}
	}
}

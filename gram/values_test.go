package gram_test

import (
	"fmt"
	"math/big"
	"math/rand/v2"
	"testing"

	"quadform/api"
	"quadform/gram"
)

// product returns x'gy by package big.
func product(g [][]api.Int, x, y []api.Int) *big.Int {
	row := times(valuesOf([][]api.Int{x}), valuesOf(g))
	return times(row, turned(valuesOf([][]api.Int{y})))[0][0]
}

// P7.4
func TestNormAndInner(t *testing.T) {
	random := rand.New(rand.NewPCG(3, 4))
	for _, g := range forms() {
		n := len(g)
		for _, m := range [][][]api.Int{smallMatrix(random, 2, n, 1), smallMatrix(random, 2, n, 9), longMatrix(random, 2, n, 4), of(zeros(2, n)), of(unit(max(2, n)))} {
			x, y := m[0][:n], m[1][:n]
			norm, e := gram.Norm(g, x)
			expectInt(t, fmt.Sprint("Norm of ", g, x), norm, e, product(g, x, x))
			inner, e := gram.Inner(g, x, y)
			expectInt(t, fmt.Sprint("Inner of ", g, x, y), inner, e, product(g, x, y))
			inner, e = gram.Inner(g, y, x)
			expectInt(t, fmt.Sprint("Inner of ", g, y, x), inner, e, product(g, x, y))
		}
	}
	norm, e := gram.Norm(of(ints{{4, 2, 0}, {2, 6, -1}, {0, -1, 3}}), list(1, -2, 3))
	expectInt(t, "Norm", norm, e, big.NewInt(59))
	inner, e := gram.Inner(of(hexagon), list(3, -1), list(0, 5))
	expectInt(t, "Inner", inner, e, big.NewInt(5))
}

// P7.4
func TestVectorsOfOtherLengths(t *testing.T) {
	for n := 1; n <= api.MaxDim; n++ {
		g := of(unit(n))
		for _, length := range []int{0, 1, 2, n - 1, n + 1, 2 * n, 16, 17, 1000} {
			if length == n {
				continue
			}
			for _, vectors := range [][2][]api.Int{{make([]api.Int, length), make([]api.Int, n)}, {make([]api.Int, n), make([]api.Int, length)}, {make([]api.Int, length), make([]api.Int, length)}, {nil, make([]api.Int, length)}} {
				if inner, e := gram.Inner(g, vectors[0], vectors[1]); e != api.ErrShape || !isZero(inner) {
					t.Errorf("Inner in dimension %d of vectors of lengths %d and %d: %v, %d", n, len(vectors[0]), len(vectors[1]), inner, e)
				}
			}
			if norm, e := gram.Norm(g, make([]api.Int, length)); e != api.ErrShape || !isZero(norm) {
				t.Errorf("Norm in dimension %d of a vector of length %d: %v, %d", n, length, norm, e)
			}
		}
	}
}

// P7.5
func TestDet(t *testing.T) {
	for _, g := range forms() {
		det, e := gram.Det(g)
		expectInt(t, fmt.Sprint("Det of ", g), det, e, determinant(valuesOf(g)))
	}
	for _, c := range []struct {
		l   ints
		det int64
	}{{hexagon, 3}, {ints{{7}}, 7}, {e8(), 1}, {unit(8), 1}, {ints{{4, 2, 0}, {2, 6, -1}, {0, -1, 3}}, 56}, {ints{{2, 0, 0, 1}, {0, 2, 0, 1}, {0, 0, 2, 1}, {1, 1, 1, 2}}, 4}} {
		det, e := gram.Det(of(c.l))
		expectInt(t, fmt.Sprint("Det of ", c.l), det, e, big.NewInt(c.det))
	}
}

// P7.5
func TestContent(t *testing.T) {
	for _, g := range forms() {
		want := new(big.Int)
		for _, row := range valuesOf(g) {
			for _, v := range row {
				want.GCD(nil, nil, want, new(big.Int).Abs(v))
			}
		}
		content, e := gram.Content(g)
		expectInt(t, fmt.Sprint("Content of ", g), content, e, want)
	}
	for _, c := range []struct {
		l       ints
		content int64
	}{{hexagon, 1}, {ints{{6}}, 6}, {ints{{4, 2}, {2, 6}}, 2}, {ints{{4, 1}, {1, 4}}, 1}, {ints{{6, -3}, {-3, 6}}, 3}, {ints{{6, 0}, {0, 4}}, 2}, {ints{{12, 0, 0}, {0, 12, 6}, {0, 6, 16}}, 2}, {e8(), 1}} {
		content, e := gram.Content(of(c.l))
		expectInt(t, fmt.Sprint("Content of ", c.l), content, e, big.NewInt(c.content))
	}
}

// P7.5: a form is even if and only if all norms of vectors of zeros and ones are even.
func TestEven(t *testing.T) {
	expectEven := func(g [][]api.Int, want bool) {
		t.Helper()
		if even, e := gram.Even(g); e != api.OK || even != want {
			t.Errorf("Even of %v: %v, %d, want %v", g, even, e, want)
		}
	}
	for _, g := range forms() {
		want := true
		for set := range 1 << len(g) {
			x := make([]api.Int, len(g))
			for i := range x {
				x[i] = small(int64(set >> i & 1))
			}
			want = want && product(g, x, x).Bit(0) == 0
		}
		expectEven(g, want)
	}
	for _, l := range []ints{{{2}}, {{1 << 32}}, {{4, 1}, {1, 6}}, hexagon, e8()} {
		expectEven(of(l), true)
	}
	for _, l := range []ints{{{1}}, {{1 + 1<<32}}, {{1<<63 - 1}}, {{3, 0}, {0, 2}}, {{2, 0}, {0, 3}}, {{4, 2}, {2, 5}}, unit(8)} {
		expectEven(of(l), false)
	}
	for i := range 8 {
		l := e8()
		l[i][i]++
		expectEven(of(l), false)
	}
}

package vector_test

import (
	"math/big"
	"math/rand/v2"
	"slices"
	"testing"

	"quadform/vector"
)

// combined returns a x + b y.
func combined(a int64, x []int64, b int64, y []int64) []int64 {
	out := make([]int64, len(x))
	for i := range out {
		out[i] = a*x[i] + b*y[i]
	}
	return out
}

// inner returns the inner product of two vectors that have one.
func inner(t *testing.T, h ints, x, y []int64) int64 {
	t.Helper()
	n, ok := vector.Inner(h, x, y)
	if !ok {
		t.Fatalf("%v and %v have no inner product for %v", x, y, h)
	}
	return n
}

// P9.10: Inner is symmetric and linear, and Norm is Inner of equal vectors.
func TestInnerIsBilinear(t *testing.T) {
	random := rand.New(rand.NewPCG(29, 30))
	for _, h := range forms() {
		for _, size := range []int64{2, 100, 1 << 16} {
			x, y, z := shortVector(random, len(h), size), shortVector(random, len(h), size), shortVector(random, len(h), size)
			a, b := random.Int64N(200)-100, random.Int64N(200)-100
			if inner(t, h, x, y) != inner(t, h, y, x) {
				t.Errorf("Inner of %v, %v, %v is not symmetric", h, x, y)
			}
			want := a*inner(t, h, x, z) + b*inner(t, h, y, z)
			if inner(t, h, combined(a, x, b, y), z) != want || inner(t, h, z, combined(a, x, b, y)) != want {
				t.Errorf("Inner of %v, %v, %v, %v is not linear", h, x, y, z)
			}
			if norm, ok := vector.Norm(h, x); !ok || norm != inner(t, h, x, x) {
				t.Errorf("Norm of %v, %v: %d", h, x, norm)
			}
		}
	}
}

// P9.10: norms are positive, and Cauchy's inequality.
func TestNormsAndInnerProducts(t *testing.T) {
	random := rand.New(rand.NewPCG(31, 32))
	for _, h := range forms() {
		n := len(h)
		for range 30 {
			x, y := shortVector(random, n, 3), shortVector(random, n, 1<<random.IntN(20))
			x[random.IntN(n)] = 1
			first, second := inner(t, h, x, x), inner(t, h, y, y)
			if first < 1 || second < 0 || second == 0 && slices.ContainsFunc(y, func(c int64) bool { return c != 0 }) {
				t.Errorf("the norms of %v and %v for %v are %d and %d", x, y, h, first, second)
			}
			square := big.NewInt(inner(t, h, x, y))
			if square.Mul(square, square).Cmp(new(big.Int).Mul(big.NewInt(first), big.NewInt(second))) > 0 {
				t.Errorf("the inner product of %v and %v for %v is too great", x, y, h)
			}
		}
	}
}

// P9.10: SortUnique of a result is that result; Gram and Transform agree with Inner and Norm.
func TestResultsAgree(t *testing.T) {
	random := rand.New(rand.NewPCG(33, 34))
	for _, h := range forms() {
		n := len(h)
		var l ints
		for range 40 {
			x := shortVector(random, n, 2)
			x[random.IntN(n)] = -1
			l = append(l, x)
		}
		list, ok := vector.SortUnique(h, l)
		again, okAgain := vector.SortUnique(h, list)
		if !ok || !okAgain || !sameLists(list, again) {
			t.Errorf("SortUnique of %v, %v is not the list itself: %v", h, list, again)
		}
		m, _ := vector.Gram(h, list)
		for i, x := range list {
			if signed, ok := vector.CanonicalSign(x); !ok || !slices.Equal(signed, x) {
				t.Errorf("SortUnique contains %v", x)
			}
			if norm, _ := vector.Norm(h, x); norm != m[i][i] || i > 0 && (norm < m[i-1][i-1] || norm == m[i-1][i-1] && vector.Compare(list[i-1], x) != -1) {
				t.Errorf("%v is in the wrong place of %v", x, list)
			}
			for j, y := range list {
				if m[i][j] != inner(t, h, x, y) {
					t.Errorf("Gram of %v, %v is wrong for %v and %v", h, list, x, y)
				}
			}
		}
		base := unimodular(random, n, 3)
		transformed, ok := vector.Transform(h, base)
		if products, okProducts := vector.Gram(h, turned(base)); !ok || !okProducts || !sameLists(transformed, products) {
			t.Errorf("Transform of %v, %v is not the matrix of the columns", h, base)
		}
	}
}

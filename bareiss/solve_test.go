package bareiss_test

import (
	"math"
	"math/big"
	"math/rand/v2"
	"slices"
	"testing"

	"quadform/api"
	"quadform/bareiss"
	"quadform/integer"
	"quadform/matrix"
)

// cramer returns the solution of m x = b by package big, for a determinant det that is not 0.
func cramer(m, b fractions, det *big.Rat) []*big.Rat {
	var x []*big.Rat
	for i := range m {
		other := make(fractions, len(m))
		for k := range m {
			other[k] = slices.Clone(m[k])
			other[k][i] = b[0][k]
		}
		_, numerator := rankAndDet(other)
		x = append(x, numerator.Quo(numerator, det))
	}
	return x
}

// expectSolution checks Solve for a square matrix and a column that fits.
func expectSolution(t *testing.T, m [][]api.Int, b []api.Int) {
	t.Helper()
	x, e := bareiss.Solve(m, b)
	v := fractionsOf(m)
	_, det := rankAndDet(v)
	if det.Sign() == 0 {
		expectError(t, x, e, api.ErrSingular)
		return
	}
	want := cramer(v, fractions{valuesOf(b)}, det)
	if e != api.OK || !slices.EqualFunc(x, want, isFraction) {
		t.Fatalf("Solve of %v, %v: got %v, %v, want %v", m, b, texts(x), e, want)
	}
}

// expectError checks that there is no value, and this error.
func expectError(t *testing.T, x []api.Rat, e, want api.Errno) {
	t.Helper()
	if e != want || len(x) > 0 {
		t.Errorf("Solve: got %v, %v, want error %v", x, e, want)
	}
}

// P4.4
func TestSolve(t *testing.T) {
	random := rand.New(rand.NewPCG(7, 8))
	for _, m := range squares() {
		if len(m) <= 8 {
			expectSolution(t, m, smallMatrix(random, 1, len(m), 5)[0])
			expectSolution(t, m, longMatrix(random, 1, len(m), 3)[0])
		}
	}
	forTinyMatrices(func(m [][]api.Int) { expectSolution(t, m, column(1, -2, 3)) })
}

// P4.4: the numbers themselves.
func TestSolveByHand(t *testing.T) {
	for _, c := range []struct {
		l    ints
		b    []int64
		want []string
	}{
		{ints{{2, 1}, {1, 2}}, []int64{1, 0}, []string{"2/3", "-1/3"}}, {ints{{0, 2}, {-3, 0}}, []int64{4, 6}, []string{"-2", "2"}}, {ints{{7}}, []int64{0}, []string{"0"}}, {ints{{-7}}, []int64{3}, []string{"-3/7"}}, {ints{{-6}}, []int64{-4}, []string{"2/3"}}, {ints{{1, 2, 3}, {0, 1, 4}, {5, 6, 0}}, []int64{1, 1, 1}, []string{"-1", "1", "0"}},
		{ints{{0, 1}, {1, 0}}, []int64{3, 5}, []string{"5", "3"}}, {ints{{0, 0, 2}, {0, 3, 0}, {5, 0, 0}}, []int64{1, 1, 1}, []string{"1/5", "1/3", "1/2"}}, {ints{{0, 0, 4}, {2, 0, 0}, {0, 6, 0}}, []int64{1, 1, 0}, []string{"1/2", "0", "1/4"}},
		{ints{{math.MinInt64}}, []int64{math.MinInt64}, []string{"1"}}, {ints{{math.MaxInt64, 0}, {0, 2}}, []int64{1, math.MinInt64}, []string{"1/9223372036854775807", "-4611686018427387904"}}, {ints{{2, 1}, {1, 2}}, []int64{0, 0}, []string{"0", "0"}},
	} {
		x, e := bareiss.Solve(of(c.l), column(c.b...))
		if e != api.OK || !slices.Equal(texts(x), c.want) {
			t.Errorf("Solve of %v, %v: got %v, %v, want %v", c.l, c.b, texts(x), e, c.want)
		}
	}
}

// P4.4: m x = b in the greatest size, with long and with short numbers.
func TestSolveLargeMatrices(t *testing.T) {
	random := rand.New(rand.NewPCG(9, 10))
	n := api.MaxSize
	for _, m := range [][][]api.Int{longMatrix(random, n, n, 3), smallMatrix(random, n, n, 9), gram(smallMatrix(random, 3, n, 2))} {
		b := longMatrix(random, 1, n, 2)[0]
		x, e := bareiss.Solve(m, b)
		if e != api.OK || len(x) != n {
			t.Fatalf("Solve of %v, %v: %v, %v", m, b, x, e)
		}
		det := must(matrix.Det(m))
		numerators := must(matrix.Apply(must(matrix.Adjugate(m)), b))
		for i := range x {
			if !isFraction(x[i], new(big.Rat).Quo(value(numerators[i]), value(det))) {
				t.Fatalf("Solve of %v, %v: %v", m, b, x)
			}
		}
	}
}

// P4.4: the shape is checked ahead of the determinant, and both lengths count.
func TestSolveErrShape(t *testing.T) {
	for _, l := range notSquare() {
		for _, length := range []int{0, 1, len(l), len(l) + 1} {
			x, e := bareiss.Solve(of(l), column(make([]int64, length)...))
			expectError(t, x, e, api.ErrShape)
		}
		if len(l) > 0 {
			x, e := bareiss.Solve(of(l), column(make([]int64, len(l[0]))...))
			expectError(t, x, e, api.ErrShape)
		}
	}
	for _, l := range []ints{{{2, 1}, {1, 2}}, {{1, 2}, {2, 4}}, zeros(2, 2)} {
		for _, b := range [][]api.Int{nil, {}, column(1), column(1, 2, 3), column(make([]int64, 1000)...)} {
			x, e := bareiss.Solve(of(l), b)
			expectError(t, x, e, api.ErrShape)
		}
	}
}

// P4.4: a determinant 0 is an error, whether or not there are solutions.
func TestSolveErrSingular(t *testing.T) {
	for _, l := range []ints{{{0, 0}, {0, 0}}, {{1, 2}, {2, 4}}, {{0, 1}, {0, 2}}, {{0, 0}, {1, 2}}} {
		for _, b := range [][]int64{{0, 0}, {1, 2}, {1, 0}, {0, 1}} {
			x, e := bareiss.Solve(of(l), column(b...))
			expectError(t, x, e, api.ErrSingular)
		}
	}
	random := rand.New(rand.NewPCG(11, 12))
	for n := 1; n <= api.MaxSize; n++ {
		for rank := range n {
			x, e := bareiss.Solve(dependent(random, n, n, rank), longMatrix(random, 1, n, 2)[0])
			expectError(t, x, e, api.ErrSingular)
		}
	}
}

// P4.4: unimodular matrices have integers as solutions.
func TestSolveUnimodular(t *testing.T) {
	n := api.MaxSize
	l := zeros(n, n)
	for i := range n {
		l[i][n-1-i] = -1
		for j := n - i; j < n; j++ {
			l[i][j] = int64(i*j%5 - 2)
		}
	}
	m, b := of(l), column(make([]int64, n)...)
	b[n-1] = integer.Small(3)
	want := must(matrix.Apply(must(matrix.Inverse(m)), b))
	if x, e := bareiss.Solve(m, b); e != api.OK || !slices.EqualFunc(x, valuesOf(want), isFraction) {
		t.Errorf("got %v, %v, want %v", texts(x), e, want)
	}
}

package matrix_test

import (
	"math/rand/v2"
	"testing"

	"quadform/api"
	"quadform/integer"
	"quadform/matrix"
)

func expectSame(t *testing.T, law string, left, right [][]api.Int) {
	t.Helper()
	if !matrix.Equal(left, right) {
		t.Errorf("%s: %v and %v", law, left, right)
	}
}

// P3.7
func TestMulIsAssociative(t *testing.T) {
	random := rand.New(rand.NewPCG(1, 2))
	shapes(func(rows, inner int) {
		a, b, c := randomMatrix(random, rows, inner, 3), randomMatrix(random, inner, 3, 3), randomMatrix(random, 3, rows, 3)
		left := must(matrix.Mul(must(matrix.Mul(a, b)), c))
		right := must(matrix.Mul(a, must(matrix.Mul(b, c))))
		expectSame(t, "Mul is associative", left, right)
	})
}

// P3.7
func TestTransposeReversesProducts(t *testing.T) {
	random := rand.New(rand.NewPCG(3, 4))
	shapes(func(rows, inner int) {
		a, b := randomMatrix(random, rows, inner, 3), randomMatrix(random, inner, 5, 3)
		left := must(matrix.Transpose(must(matrix.Mul(a, b))))
		right := must(matrix.Mul(must(matrix.Transpose(b)), must(matrix.Transpose(a))))
		expectSame(t, "Transpose reverses products", left, right)
		expectSame(t, "Transpose undoes itself", must(matrix.Transpose(must(matrix.Transpose(a)))), a)
	})
}

// P3.7
func TestDetOfProducts(t *testing.T) {
	random := rand.New(rand.NewPCG(5, 6))
	for n := 1; n <= api.MaxSize; n++ {
		for _, a := range [][][]api.Int{randomMatrix(random, n, n, 2), smallMatrix(random, n, n, 1), dependent(random, n, n-1, 2)} {
			b := randomMatrix(random, n, n, 2)
			det := must(matrix.Det(must(matrix.Mul(a, b))))
			product := integer.Mul(must(matrix.Det(a)), must(matrix.Det(b)))
			if integer.Cmp(det, product) != 0 {
				t.Errorf("Det of the product of %v and %v: %v, %v", a, b, det, product)
			}
			if integer.Cmp(must(matrix.Det(a)), must(matrix.Det(must(matrix.Transpose(a))))) != 0 {
				t.Errorf("Det of %v and of its transposed matrix", a)
			}
		}
	}
}

// P3.7
func TestAdjugateGivesDet(t *testing.T) {
	random := rand.New(rand.NewPCG(7, 8))
	for n := 1; n <= api.MaxSize; n++ {
		for _, m := range [][][]api.Int{randomMatrix(random, n, n, 3), smallMatrix(random, n, n, 1), dependent(random, n, n-1, 2), unimodular(random, n)} {
			adj, det := must(matrix.Adjugate(m)), must(matrix.Det(m))
			want := must(matrix.Identity(n))
			for i := range want {
				want[i][i] = det
			}
			expectSame(t, "m times its adjugate", must(matrix.Mul(m, adj)), want)
			expectSame(t, "the adjugate times m", must(matrix.Mul(adj, m)), want)
		}
	}
}

// P3.3: the product with a column is that with a matrix of one column.
func TestApplyIsMul(t *testing.T) {
	random := rand.New(rand.NewPCG(9, 10))
	shapes(func(rows, cols int) {
		m, x := randomMatrix(random, rows, cols, 3), randomColumn(random, cols, 3)
		y := must(matrix.Apply(m, x))
		product := must(matrix.Mul(m, must(matrix.Transpose([][]api.Int{x}))))
		expectSame(t, "Apply is Mul", must(matrix.Transpose([][]api.Int{y})), product)
	})
}

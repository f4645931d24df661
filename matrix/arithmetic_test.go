package matrix_test

import (
	"math/big"
	"math/rand/v2"
	"testing"

	"quadform/api"
	"quadform/matrix"
)

// sumOf returns a + b by package big.
func sumOf(a, b values) values {
	out := make(values, len(a))
	for i := range a {
		for j := range a[i] {
			out[i] = append(out[i], new(big.Int).Add(a[i][j], b[i][j]))
		}
	}
	return out
}

// productOf returns a b by package big.
func productOf(a, b values) values {
	out := make(values, len(a))
	for i := range a {
		for j := range b[0] {
			total := new(big.Int)
			for k := range b {
				total.Add(total, new(big.Int).Mul(a[i][k], b[k][j]))
			}
			out[i] = append(out[i], total)
		}
	}
	return out
}

// P3.3
func TestAdd(t *testing.T) {
	got, ok := matrix.Add(of(ints{{1, 2, 3}, {4, 5, 6}}), of(ints{{-1, 0, 1}, {0, 0, -6}}))
	expect(t, "Add", got, ok, valuesOfInts(ints{{0, 2, 4}, {4, 5, 0}}))
	random := rand.New(rand.NewPCG(1, 2))
	shapes(func(rows, cols int) {
		a, b := randomMatrix(random, rows, cols, 4), randomMatrix(random, rows, cols, 4)
		got, ok := matrix.Add(a, b)
		expect(t, "Add", got, ok, sumOf(valuesOf(a), valuesOf(b)))
	})
}

// P3.3
func TestAddOfOtherShapes(t *testing.T) {
	for _, c := range [][4]int{{2, 3, 3, 2}, {2, 3, 2, 2}, {2, 3, 3, 3}, {1, 1, 1, 2}, {1, 1, 2, 1}, {1, 4, 2, 2}, {16, 16, 15, 16}, {16, 16, 16, 15}} {
		a, b := of(wide(c[0], c[1])), of(wide(c[2], c[3]))
		got, ok := matrix.Add(a, b)
		expectNone(t, "Add", got, ok)
		got, ok = matrix.Add(b, a)
		expectNone(t, "Add", got, ok)
	}
	for _, l := range notValid() {
		for _, other := range []ints{l, {{1}}, {{1, 2}, {3, 4}}} {
			got, ok := matrix.Add(of(l), of(other))
			expectNone(t, "Add", got, ok)
			got, ok = matrix.Add(of(other), of(l))
			expectNone(t, "Add", got, ok)
		}
	}
}

// P3.3
func TestMul(t *testing.T) {
	got, ok := matrix.Mul(of(ints{{1, 2, 3}, {4, 5, 6}}), of(ints{{1, 0}, {0, 1}, {1, -1}}))
	expect(t, "Mul", got, ok, valuesOfInts(ints{{4, -1}, {10, -1}}))
	got, ok = matrix.Mul(of(ints{{2}, {0}, {-3}}), of(ints{{1, -4}}))
	expect(t, "Mul", got, ok, valuesOfInts(ints{{2, -8}, {0, 0}, {-3, 12}}))
	random := rand.New(rand.NewPCG(3, 4))
	shapes(func(rows, inner int) {
		for _, cols := range []int{1, 2, 7, api.MaxSize} {
			a, b := randomMatrix(random, rows, inner, 3), randomMatrix(random, inner, cols, 3)
			got, ok := matrix.Mul(a, b)
			expect(t, "Mul", got, ok, productOf(valuesOf(a), valuesOf(b)))
		}
	})
}

// P3.3
func TestMulOfOtherShapes(t *testing.T) {
	for _, c := range [][4]int{{2, 3, 2, 3}, {2, 3, 4, 2}, {2, 3, 1, 3}, {1, 1, 2, 1}, {2, 1, 2, 1}, {16, 16, 15, 16}, {16, 15, 16, 16}} {
		got, ok := matrix.Mul(of(wide(c[0], c[1])), of(wide(c[2], c[3])))
		expectNone(t, "Mul", got, ok)
	}
	for _, l := range notValid() {
		for _, other := range []ints{l, {{1}}, {{1, 2}, {3, 4}}, wide(1, 16), wide(16, 1), wide(3, 3)} {
			got, ok := matrix.Mul(of(l), of(other))
			expectNone(t, "Mul", got, ok)
			got, ok = matrix.Mul(of(other), of(l))
			expectNone(t, "Mul", got, ok)
		}
	}
}

// P3.3
func TestApply(t *testing.T) {
	y, ok := matrix.Apply(of(ints{{1, 2, 3}, {4, 5, 6}}), column(1, -1, 2))
	expect(t, "Apply", [][]api.Int{y}, ok, valuesOfInts(ints{{5, 11}}))
	random := rand.New(rand.NewPCG(5, 6))
	shapes(func(rows, cols int) {
		m, x := randomMatrix(random, rows, cols, 4), randomColumn(random, cols, 4)
		want := make([]*big.Int, rows)
		for i := range m {
			want[i] = new(big.Int)
			for k := range x {
				want[i].Add(want[i], new(big.Int).Mul(value(m[i][k]), value(x[k])))
			}
		}
		y, ok := matrix.Apply(m, x)
		expect(t, "Apply", [][]api.Int{y}, ok, values{want})
	})
}

// P3.3
func TestApplyOfOtherShapes(t *testing.T) {
	for _, c := range [][3]int{{2, 3, 2}, {2, 3, 0}, {2, 3, 4}, {1, 1, 0}, {1, 1, 2}, {16, 16, 15}, {16, 16, 17}, {16, 1, 16}, {1, 16, 1}} {
		if y, ok := matrix.Apply(of(wide(c[0], c[1])), make([]api.Int, c[2])); ok || len(y) > 0 {
			t.Errorf("Apply of a %d by %d matrix and %d entries: %v, %v", c[0], c[1], c[2], y, ok)
		}
	}
	for _, l := range notValid() {
		for _, n := range []int{0, 1, 2, 3, 16, 17, 1000} {
			if y, ok := matrix.Apply(of(l), make([]api.Int, n)); ok || len(y) > 0 {
				t.Errorf("Apply of %v and %d entries: %v, %v", l, n, y, ok)
			}
		}
	}
}

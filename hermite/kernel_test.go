package hermite_test

import (
	"testing"

	"quadform/api"
	"quadform/bareiss"
	"quadform/hermite"
	"quadform/integer"
	"quadform/matrix"
)

// P5.7
func TestKernelByHand(t *testing.T) {
	for _, c := range []struct{ m, want ints }{
		{ints{{2, 3}}, ints{{3}, {-2}}},
		{ints{{3, -2}}, ints{{2}, {3}}},
		{ints{{0, 5}}, ints{{1}, {0}}},
		{ints{{5, 0}}, ints{{0}, {1}}},
		{ints{{0}}, ints{{1}}},
		{ints{{0, 0}}, ints{{1, 0}, {0, 1}}},
		{ints{{4, 6}}, ints{{3}, {-2}}},
		{ints{{2, 4, 6}}, ints{{1, 0}, {1, 3}, {-1, -2}}},
		{ints{{1, 1}, {2, 2}}, ints{{1}, {-1}}},
		{ints{{1, 2, 3}, {4, 5, 6}, {7, 8, 9}}, ints{{1}, {-2}, {1}}},
		{ints{{1, 0, 0, 1}, {0, 0, 1, 1}}, ints{{1, 0}, {0, 1}, {1, 0}, {-1, 0}}},
		{ints{{1, 0}, {0, 1}}, nil}, {ints{{7}}, nil}, {ints{{1}, {0}}, nil}, {ints{{0}, {-3}}, nil}, {ints{{2, 3}, {4, 6}, {0, 1}}, nil},
	} {
		kernel, ok := hermite.Kernel(of(c.m))
		if !ok || len(kernel) != len(c.want) || len(kernel) > 0 && !isMatrix(kernel, of(c.want)) {
			t.Errorf("Kernel of %v: %v, %v, want %v", c.m, kernel, ok, c.want)
		}
	}
}

// expectKernel checks Kernel, but for the question whether it contains all solutions: it returns the kernel.
func expectKernel(t *testing.T, m [][]api.Int) [][]api.Int {
	t.Helper()
	kernel, ok := hermite.Kernel(m)
	nullity := len(m[0]) - must(bareiss.Rank(m))
	if nullity == 0 {
		if !ok || len(kernel) > 0 {
			t.Fatalf("Kernel of %v: %v, %v", m, kernel, ok)
		}
		return nil
	}
	if !ok || len(kernel) != len(m[0]) || len(kernel[0]) != nullity || !isCanonical(kernel) {
		t.Fatalf("Kernel of %v: %v, %v", m, kernel, ok)
	}
	if pivots, isForm := pivotRows(kernel); !isForm || len(pivots) < nullity {
		t.Fatalf("Kernel of %v is no basis in Hermite form: %v", m, kernel)
	}
	if product := must(matrix.Mul(m, kernel)); !isMatrix(product, of(zeros(len(m), nullity))) {
		t.Fatalf("Kernel of %v: %v, which leads to %v", m, kernel, product)
	}
	return kernel
}

// P5.7: a basis of nullity columns contains all integer solutions if their minors of full size have no common divisor.
func TestKernelByMinors(t *testing.T) {
	check := func(m [][]api.Int) {
		kernel := expectKernel(t, m)
		if kernel == nil {
			return
		}
		if _, divisor := divisorOfMinors(kernel); !divisor.IsInt64() || divisor.Int64() != 1 {
			t.Fatalf("Kernel of %v: %v, which is not all, by the factor %v", m, kernel, divisor)
		}
	}
	for _, m := range few() {
		check(m)
	}
	for _, shape := range [][2]int{{1, 2}, {1, 3}, {2, 2}, {2, 3}} {
		forTinyMatrices(shape[0], shape[1], -2, 1, check)
	}
}

// P5.7: matrices of all sizes. A basis contains all solutions if it is part of a unimodular matrix.
func TestKernel(t *testing.T) {
	for _, m := range samples() {
		kernel := expectKernel(t, m)
		if kernel != nil {
			expectExtended(t, kernel)
		}
	}
}

// expectExtended checks Extend for a matrix that is part of a unimodular one.
func expectExtended(t *testing.T, m [][]api.Int) {
	t.Helper()
	u, ok := hermite.Extend(m)
	if !ok || len(u) != len(m) || !isUnimodular(u) || !isCanonical(u) {
		t.Fatalf("Extend of %v: %v, %v", m, u, ok)
	}
	if first := build(len(m), len(m[0]), func(i, j int) api.Int { return u[i][j] }); !matrix.Equal(first, m) {
		t.Fatalf("Extend of %v: %v does not begin with it", m, u)
	}
}

// P5.8
func TestExtendByHand(t *testing.T) {
	for _, l := range []ints{
		{{1}}, {{-1}}, {{2}, {3}}, {{0}, {1}}, {{-1}, {0}}, {{0}, {0}, {-1}}, {{6}, {10}, {15}}, {{1, 0}, {0, 1}}, {{0, 1}, {1, 0}}, {{2, 1}, {1, 1}}, {{1, 0}, {0, 1}, {2, 3}}, {{3, 1}, {1, 0}, {0, 7}}, {{0, 0}, {2, 1}, {5, 3}}, {{1 << 62}, {1<<62 - 1}},
	} {
		expectExtended(t, of(l))
	}
	for _, l := range []ints{
		{{0}}, {{2}}, {{-2}}, {{2}, {4}}, {{0}, {0}}, {{6}, {10}, {16}}, {{1, 2}}, {{1, 0}}, {{0, 0, 1}}, {{1, 0, 0}, {0, 1, 0}}, {{2, 1}, {1, 2}}, {{2, 0}, {0, 1}}, {{1, 1}, {1, 1}, {0, 0}}, {{1, 1}, {1, 1}}, {{1, 0}, {0, 0}, {0, 2}}, {{1, 1}, {1, -1}, {0, 0}}, {{1, 0}, {0, 0}, {0, 0}}, zeros(16, 16), zeros(16, 1), zeros(1, 16),
	} {
		u, ok := hermite.Extend(of(l))
		expectNone(t, "Extend", u, ok)
	}
}

// P5.8: by minors.
func TestExtendByMinors(t *testing.T) {
	found := 0
	check := func(m [][]api.Int) {
		rank, divisor := divisorOfMinors(m)
		if rank == len(m[0]) && divisor.IsInt64() && divisor.Int64() == 1 {
			expectExtended(t, m)
			found++
			return
		}
		u, ok := hermite.Extend(m)
		expectNone(t, "Extend", u, ok)
	}
	for _, m := range few() {
		check(m)
	}
	for _, shape := range [][2]int{{1, 1}, {1, 2}, {2, 1}, {2, 2}, {2, 3}, {3, 2}} {
		forTinyMatrices(shape[0], shape[1], -2, 1, check)
	}
	if found < 100 {
		t.Errorf("only %d matrices can be extended", found)
	}
}

// P5.8: the first columns of unimodular matrices of all sizes, and twice the last one of them.
func TestExtend(t *testing.T) {
	for _, m := range samples() {
		if !isUnimodular(m) {
			continue
		}
		for _, cols := range []int{1, len(m)/2 + 1, len(m)} {
			first := build(len(m), cols, func(i, j int) api.Int { return m[i][j] })
			expectExtended(t, first)
			for i := range first {
				first[i][cols-1] = integer.Add(m[i][cols-1], m[i][cols-1])
			}
			u, ok := hermite.Extend(first)
			expectNone(t, "Extend", u, ok)
		}
	}
}

// P5.7 and P5.8
func TestKernelAndExtendNotValid(t *testing.T) {
	for _, l := range notValid() {
		kernel, ok := hermite.Kernel(of(l))
		expectNone(t, "Kernel", kernel, ok)
		u, ok := hermite.Extend(of(l))
		expectNone(t, "Extend", u, ok)
	}
}

package hermite_test

import (
	"math/rand/v2"
	"testing"

	"quadform/api"
	"quadform/bareiss"
	"quadform/hermite"
	"quadform/integer"
	"quadform/matrix"
)

// P5.9: the rank is the number of the columns that are not 0.
func TestRankIsNumberOfColumns(t *testing.T) {
	for _, m := range samples() {
		h, _, _ := hermite.Form(m)
		pivots, _ := pivotRows(h)
		if rank := must(bareiss.Rank(m)); len(pivots) != rank {
			t.Errorf("%v has rank %d, and its Hermite form is %v", m, rank, h)
		}
	}
}

// P5.9: the product with a unimodular matrix has the same Hermite form.
func TestFormOfProduct(t *testing.T) {
	random := rand.New(rand.NewPCG(13, 14))
	for _, m := range samples() {
		h, _, _ := hermite.Form(m)
		for range 2 {
			product := must(matrix.Mul(m, unimodular(random, len(m[0]))))
			if other, _, _ := hermite.Form(product); !isMatrix(other, h) {
				t.Errorf("%v has the Hermite form %v, and the product %v has %v", m, h, product, other)
			}
		}
	}
}

// isSaturated reports whether every rational combination of the columns that is integer, with entries of at most limit, is an integer combination.
func isSaturated(m [][]api.Int, limit int64) bool {
	rank, saturated := must(bareiss.Rank(m)), true
	forTinyMatrices(len(m), 1, -limit, limit, func(x [][]api.Int) {
		if saturated && must(bareiss.Rank(beside(m, x))) == rank {
			saturated = hermite.Contains(m, must(matrix.Transpose(x))[0])
		}
	})
	return saturated
}

// P5.9: Extend succeeds if and only if no integer column is missing. The combinations with factors from 0 to 1 show all of them.
func TestExtendNeedsSaturation(t *testing.T) {
	check := func(m [][]api.Int, limit int64) {
		if must(bareiss.Rank(m)) < len(m[0]) {
			return
		}
		if _, ok := hermite.Extend(m); ok != isSaturated(m, limit) {
			t.Errorf("Extend of %v: %v", m, ok)
		}
	}
	forTinyMatrices(1, 1, -5, 5, func(m [][]api.Int) { check(m, 5) })
	forTinyMatrices(2, 1, -4, 4, func(m [][]api.Int) { check(m, 4) })
	forTinyMatrices(2, 2, -2, 2, func(m [][]api.Int) { check(m, 4) })
	forTinyMatrices(3, 2, 0, 1, func(m [][]api.Int) { check(m, 2) })
	for _, l := range []ints{{{1, 1}, {1, -1}, {0, 2}}, {{2, 1}, {1, 2}, {1, 1}}, {{1, 1}, {1, 2}, {-2, 0}}, {{1, 0}, {2, 2}, {1, 2}}} {
		check(of(l), 4)
	}
}

// P5.2 and P5.7: the columns of the transformation that lead to 0 generate the kernel.
func TestTransformationContainsKernel(t *testing.T) {
	for _, m := range samples() {
		h, u, _ := hermite.Form(m)
		pivots, _ := pivotRows(h)
		nullity := len(u) - len(pivots)
		kernel := must(hermite.Kernel(m))
		if nullity == 0 {
			continue
		}
		last := build(len(u), nullity, func(i, j int) api.Int { return u[i][len(pivots)+j] })
		if !hermite.SameLattice(last, kernel) {
			t.Errorf("%v does not generate the kernel of %v, which is %v", last, m, kernel)
		}
	}
}

// P5.3 and P5.5: a lattice contains the columns of its basis, and those of the matrix.
func TestLatticeContainsColumns(t *testing.T) {
	for _, m := range samples() {
		basis := must(hermite.Basis(m))
		if len(basis) == 0 {
			continue
		}
		for _, x := range append(must(matrix.Transpose(basis)), must(matrix.Transpose(m))...) {
			if !hermite.Contains(m, x) || !hermite.Contains(basis, x) {
				t.Errorf("%v is missing in %v or %v", x, m, basis)
			}
		}
	}
}

// P5.4 and P5.6: in a lattice of a finite index, the index times any column is contained.
func TestIndexTimesColumns(t *testing.T) {
	random := rand.New(rand.NewPCG(15, 16))
	for _, m := range samples() {
		index, ok := hermite.Index(m)
		if !ok {
			continue
		}
		x := smallMatrix(random, 1, len(m), 9)[0]
		for i := range x {
			x[i] = integer.Mul(index, x[i])
		}
		if !hermite.Contains(m, x) {
			t.Errorf("%v is missing in %v", x, m)
		}
	}
}

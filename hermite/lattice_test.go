package hermite_test

import (
	"math/rand/v2"
	"testing"

	"quadform/api"
	"quadform/bareiss"
	"quadform/hermite"
	"quadform/integer"
	"quadform/matrix"
)

// P5.3
func TestBasis(t *testing.T) {
	for _, m := range samples() {
		h, _, _ := hermite.Form(m)
		pivots, _ := pivotRows(h)
		basis, ok := hermite.Basis(m)
		if len(pivots) == 0 {
			if !ok || len(basis) > 0 {
				t.Errorf("Basis of %v: %v, %v", m, basis, ok)
			}
			continue
		}
		want := build(len(h), len(pivots), func(i, j int) api.Int { return h[i][j] })
		if !ok || !isMatrix(basis, want) {
			t.Errorf("Basis of %v: %v, %v, want %v", m, basis, ok, want)
		}
	}
}

// P5.3: the basis is independent, and generates the lattice.
func TestBasisGenerates(t *testing.T) {
	for _, m := range few() {
		basis, _ := hermite.Basis(m)
		if len(basis) == 0 {
			continue
		}
		if rank := must(bareiss.Rank(basis)); rank != len(basis[0]) {
			t.Errorf("the columns of the basis %v are dependent", basis)
		}
		if !containsLattice(m, basis) || !containsLattice(basis, m) {
			t.Errorf("%v is no basis of the lattice of %v", basis, m)
		}
	}
}

// expectSame checks SameLattice in both orders.
func expectSame(t *testing.T, a, b [][]api.Int, want bool) {
	t.Helper()
	if hermite.SameLattice(a, b) != want || hermite.SameLattice(b, a) != want {
		t.Errorf("SameLattice of %v and %v is not %v", a, b, want)
	}
}

// P5.4
func TestSameLatticeByHand(t *testing.T) {
	for _, c := range []struct {
		a, b ints
		want bool
	}{
		{ints{{2, 1}, {0, 3}}, ints{{1, 0}, {3, 6}}, true},
		{ints{{2, 1}, {0, 3}}, ints{{1, 0}, {3, 12}}, false},
		{ints{{1}}, ints{{2, 3}}, true},
		{ints{{1}}, ints{{-1}}, true},
		{ints{{1}}, ints{{2, 4}}, false},
		{ints{{0, 0}}, ints{{0}}, true},
		{ints{{0}}, ints{{5}}, false},
		{ints{{0}}, ints{{0}, {0}}, false},
		{ints{{1}}, ints{{1}, {0}}, false},
		{ints{{1}, {0}}, ints{{1}, {0}, {0}}, false},
		{ints{{1}, {0}}, ints{{0}, {1}}, false},
		{ints{{1}, {0}}, ints{{1, 0}, {0, 1}}, false},
		{ints{{1, 2}, {3, 4}}, ints{{1, 3}, {2, 4}}, false},
		{ints{{2}, {3}}, ints{{-2, 4}, {-3, 6}}, true},
		{ints{{2}, {3}}, ints{{4}, {6}}, false},
	} {
		expectSame(t, of(c.a), of(c.b), c.want)
	}
}

// P5.4: all pairs of small matrices, by minors.
func TestSameLatticeByMinors(t *testing.T) {
	for _, low := range []int64{-1, 0} {
		var list [][][]api.Int
		for cols := 1; cols <= 2; cols++ {
			forTinyMatrices(2, cols, low, low+2, func(m [][]api.Int) { list = append(list, m) })
		}
		for i, a := range list {
			for _, b := range list[i:] {
				expectSame(t, a, b, containsLattice(a, b) && containsLattice(b, a))
			}
		}
	}
}

// P5.4: lattices of all sizes; a multiple of a lattice is another one.
func TestSameLattice(t *testing.T) {
	random := rand.New(rand.NewPCG(7, 8))
	for _, m := range samples() {
		n := len(m[0])
		other := must(matrix.Mul(m, unimodular(random, n)))
		expectSame(t, m, other, true)
		if n < api.MaxSize {
			further := upright(must(matrix.Apply(m, smallMatrix(random, 1, n, 5)[0])))
			expectSame(t, m, beside(further, other), true)
		}
		twice := must(matrix.Add(m, m))
		expectSame(t, m, twice, must(bareiss.Rank(m)) == 0)
	}
}

// P5.5
func TestContainsByHand(t *testing.T) {
	two := ints{{2, 0}, {0, 3}}
	for _, c := range []struct {
		m    ints
		x    []int64
		want bool
	}{
		{two, []int64{4, -3}, true}, {two, []int64{0, 0}, true}, {two, []int64{1, 0}, false}, {two, []int64{0, 1}, false}, {two, []int64{2, 4}, false},
		{two, nil, false}, {two, []int64{4}, false}, {two, []int64{4, 3, 0}, false}, {two, []int64{0, 0, 0}, false},
		{ints{{2, 1}, {0, 3}}, []int64{3, 3}, true}, {ints{{2, 1}, {0, 3}}, []int64{1, 0}, false}, {ints{{2, 1}, {0, 3}}, []int64{0, -6}, true},
		{ints{{2}, {3}}, []int64{-4, -6}, true}, {ints{{2}, {3}}, []int64{4, 7}, false}, {ints{{2}, {3}}, []int64{0, 3}, false}, {ints{{2}, {3}}, []int64{0, 0}, true},
		{ints{{0}, {3}}, []int64{1, 3}, false}, {ints{{0}, {3}}, []int64{0, -3}, true}, {ints{{0}}, []int64{0}, true}, {ints{{0}}, []int64{1}, false},
		{ints{{4, 6}}, []int64{-10}, true}, {ints{{4, 6}}, []int64{3}, false}, {ints{{4, 6}}, []int64{0, 0}, false}, {ints{{1, 2}, {0, 0}, {0, 3}}, []int64{5, 0, 3}, true}, {ints{{1, 2}, {0, 0}, {0, 3}}, []int64{5, 1, 3}, false},
	} {
		if hermite.Contains(of(c.m), column(c.x...)) != c.want {
			t.Errorf("Contains of %v and %v is not %v", c.m, c.x, c.want)
		}
	}
}

// P5.5: by minors.
func TestContainsByMinors(t *testing.T) {
	random := rand.New(rand.NewPCG(9, 10))
	for _, m := range few() {
		for _, limit := range []int{1, 4, 40} {
			for range 3 {
				x := smallMatrix(random, 1, len(m), limit)[0]
				if want := containsLattice(m, upright(x)); hermite.Contains(m, x) != want {
					t.Errorf("Contains of %v and %v is not %v", m, x, want)
				}
			}
		}
	}
}

// P5.5: the combinations of the columns. Next to one is another one only if the difference is one.
func TestContains(t *testing.T) {
	random := rand.New(rand.NewPCG(11, 12))
	for _, m := range samples() {
		x := must(matrix.Apply(m, longMatrix(random, 1, len(m[0]), 3)[0]))
		if !hermite.Contains(m, x) || !hermite.Contains(m, make([]api.Int, len(m))) {
			t.Errorf("Contains of %v and %v is false", m, x)
		}
		if len(m[0]) == api.MaxSize {
			continue
		}
		unit := make([]api.Int, len(m))
		i := random.IntN(len(m))
		unit[i] = integer.Small(1)
		x[i] = integer.Add(x[i], unit[i])
		if hermite.Contains(m, x) != hermite.SameLattice(m, beside(m, upright(unit))) {
			t.Errorf("Contains of %v and %v is wrong", m, x)
		}
	}
}

// P5.6
func TestIndexByHand(t *testing.T) {
	for _, c := range []struct {
		m    ints
		want int64
	}{
		{ints{{1}}, 1}, {ints{{-5}}, 5}, {ints{{4, 6}}, 2}, {ints{{1, 2}}, 1}, {ints{{0, 0, 9}}, 9}, {ints{{2, 0}, {0, 3}}, 6}, {ints{{2, 1}, {0, 3}}, 6}, {ints{{0, 1}, {1, 0}}, 1}, {ints{{2, 0, 1}, {0, 2, 1}}, 2},
		{ints{{0}}, 0}, {ints{{0, 0}}, 0}, {ints{{2}, {3}}, 0}, {ints{{1, 2}, {2, 4}}, 0}, {ints{{1, 0}, {0, 1}, {0, 0}}, 0}, {ints{{0, 0}, {1, 2}}, 0}, {ints{{1, 2}, {0, 0}}, 0}, {ints{{1, 1, 1}, {1, 1, 2}, {2, 2, 3}}, 0}, {zeros(16, 16), 0},
	} {
		index, ok := hermite.Index(of(c.m))
		if ok != (c.want > 0) || !isMatrix([][]api.Int{{index}}, of(ints{{c.want}})) {
			t.Errorf("Index of %v: %v, %v, want %v", c.m, index, ok, c.want)
		}
	}
}

// P5.6: the index is the greatest common divisor of the minors of full size.
func TestIndexByMinors(t *testing.T) {
	for _, m := range few() {
		rank, divisor := divisorOfMinors(m)
		index, ok := hermite.Index(m)
		if ok != (rank == len(m)) || ok && (value(index).Cmp(divisor) != 0 || !isCanonical([][]api.Int{{index}})) {
			t.Errorf("Index of %v: %v, %v", m, index, ok)
		}
		if !ok && (index.Neg || len(index.Mag) > 0) {
			t.Errorf("Index of %v: %v beside false", m, index)
		}
	}
}

// P5.6: for a square matrix it is the determinant without its sign.
func TestIndexOfSquares(t *testing.T) {
	for _, m := range samples() {
		if len(m) != len(m[0]) {
			continue
		}
		det := value(must(matrix.Det(m)))
		index, ok := hermite.Index(m)
		if ok != (det.Sign() != 0) || value(index).CmpAbs(det) != 0 || value(index).Sign() < 0 {
			t.Errorf("Index of %v: %v, %v", m, index, ok)
		}
	}
}

// P5.3 to P5.6
func TestLatticeNotValid(t *testing.T) {
	one := of(ints{{1}})
	for _, l := range notValid() {
		m := of(l)
		basis, ok := hermite.Basis(m)
		expectNone(t, "Basis", basis, ok)
		for _, other := range [][][]api.Int{one, m, of(zeros(len(m), 1))} {
			expectSame(t, m, other, false)
		}
		for _, size := range []int{0, 1, len(m)} {
			if hermite.Contains(m, make([]api.Int, size)) {
				t.Errorf("%v contains a column", l)
			}
		}
		index, ok := hermite.Index(m)
		expectNone(t, "Index", index.Mag, ok)
	}
}

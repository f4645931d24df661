package matrix_test

import (
	"math"
	"math/big"
	"math/bits"
	"math/rand/v2"
	"slices"
	"testing"

	"quadform/api"
	"quadform/integer"
	"quadform/matrix"
)

// determinant returns the sum over all permutations, which it collects by the sets of the columns of the first rows.
func determinant(m values) *big.Int {
	n := len(m)
	sums := make([]*big.Int, 1<<n)
	sums[0] = big.NewInt(1)
	for set := 1; set < 1<<n; set++ {
		sums[set] = new(big.Int)
		row := bits.OnesCount(uint(set)) - 1
		for j := range n {
			if set>>j&1 == 0 {
				continue
			}
			term := new(big.Int).Mul(m[row][j], sums[set&^(1<<j)])
			// Each column of the set behind j is an inversion.
			if bits.OnesCount(uint(set>>(j+1)))%2 == 1 {
				term.Neg(term)
			}
			sums[set].Add(sums[set], term)
		}
	}
	return sums[1<<n-1]
}

// without returns m without row i and column j.
func without(m values, i, j int) values {
	var out values
	for k, row := range m {
		if k != i {
			out = append(out, slices.Delete(slices.Clone(row), j, j+1))
		}
	}
	return out
}

// adjugateEntry returns entry (i, j) of the adjugate, by its definition.
func adjugateEntry(m values, i, j int) *big.Int {
	entry := determinant(without(m, j, i))
	if (i+j)%2 == 1 {
		entry.Neg(entry)
	}
	return entry
}

func adjugate(m values) values {
	out := make(values, len(m))
	for i := range m {
		for j := range m {
			out[i] = append(out[i], adjugateEntry(m, i, j))
		}
	}
	return out
}

// expectDeterminants checks Det and Adjugate.
func expectDeterminants(t *testing.T, m [][]api.Int) {
	t.Helper()
	v := valuesOf(m)
	det, ok := matrix.Det(m)
	expectNumber(t, "Det", det, ok, determinant(v))
	adj, ok := matrix.Adjugate(m)
	expect(t, "Adjugate", adj, ok, adjugate(v))
}

// squares returns square matrices of different kinds, most of them with entries 0 in the places of the first pivots.
func squares() []ints {
	return []ints{
		{{0}}, {{1}}, {{-7}}, {{math.MinInt64}},
		{{0, 0}, {0, 0}}, {{0, 1}, {1, 0}}, {{0, 1}, {0, 0}}, {{0, 0}, {1, 0}}, {{0, 0}, {0, 5}}, {{1, 2}, {2, 4}}, {{2, 1}, {1, 2}}, {{2, 1}, {1, 1}}, {{1, 1}, {1, 1}},
		{{math.MinInt64, math.MinInt64}, {math.MaxInt64, math.MinInt64}},
		wide(3, 3), {{0, 2, 1}, {0, 0, 3}, {4, 5, 6}}, {{1, 2, 3}, {0, 1, 4}, {5, 6, 0}}, {{1, 2, 3}, {4, 5, 6}, {7, 8, 9}}, {{1, 2, 3}, {2, 4, 6}, {3, 6, 9}}, {{0, 0, 0}, {0, 0, 0}, {0, 0, 4}},
		{{0, 0, 0}, {0, 2, 3}, {0, 5, 7}}, {{1, 1, 0}, {1, 1, 0}, {0, 0, 1}}, {{1, 1, 1}, {1, 1, 2}, {1, 2, 1}}, {{0, 0, 2}, {0, 3, 0}, {5, 0, 0}}, {{0, 0, 1}, {0, 0, 2}, {1, 2, 0}},
		{{0, 0, 1, 0}, {1, 0, 0, 0}, {0, 0, 0, 1}, {0, 1, 0, 0}}, {{0, 0, 0, 1}, {0, 0, 1, 0}, {0, 1, 0, 0}, {1, 0, 0, 0}}, {{1, 1, 1, 1}, {1, 1, 1, 1}, {1, 1, 2, 3}, {1, 1, 3, 5}},
		{{0, 0, 0, 0}, {0, 0, 0, 0}, {0, 0, 1, 2}, {0, 0, 3, 4}}, {{0, 0, 0, 0}, {0, 1, 2, 0}, {0, 3, 4, 0}, {0, 0, 0, 1}}, wide(5, 5),
	}
}

// P3.4, P3.5
func TestDeterminants(t *testing.T) {
	for _, l := range squares() {
		expectDeterminants(t, of(l))
	}
}

// P3.4, P3.5: all 3 by 3 matrices with entries from -1 to 1.
func TestDeterminantsOfTinyEntries(t *testing.T) {
	for code := range 19683 {
		l := wide(3, 3)
		for i := range 9 {
			l[i/3][i%3] = int64(code%3 - 1)
			code /= 3
		}
		expectDeterminants(t, of(l))
	}
}

// P3.4, P3.5: matrices in which many of the numbers are 0, and matrices with long numbers.
func TestDeterminantsOfRandomMatrices(t *testing.T) {
	random := rand.New(rand.NewPCG(1, 2))
	for n := 1; n <= 6; n++ {
		for range 40 {
			expectDeterminants(t, smallMatrix(random, n, n, 1))
			expectDeterminants(t, smallMatrix(random, n, n, 9))
			expectDeterminants(t, randomMatrix(random, n, n, 4))
		}
	}
}

// P3.4, P3.5: matrices of every rank.
func TestDeterminantsOfDependentRows(t *testing.T) {
	random := rand.New(rand.NewPCG(3, 4))
	for n := 1; n <= 6; n++ {
		for rank := range n {
			for range 10 {
				expectDeterminants(t, dependent(random, n, rank, 1))
				expectDeterminants(t, dependent(random, n, rank, 50))
			}
		}
	}
}

// P3.4
func TestDetOfLargeMatrices(t *testing.T) {
	random := rand.New(rand.NewPCG(5, 6))
	for _, n := range []int{9, 12, api.MaxSize} {
		for _, m := range [][][]api.Int{smallMatrix(random, n, n, 1), randomMatrix(random, n, n, 2), dependent(random, n, n-1, 3)} {
			det, ok := matrix.Det(m)
			expectNumber(t, "Det", det, ok, determinant(valuesOf(m)))
		}
	}
	power := wide(9, 9)
	for i := range power {
		power[i][i] = 1 << 40
	}
	det, ok := matrix.Det(of(power))
	expectNumber(t, "Det", det, ok, new(big.Int).Lsh(big.NewInt(1), 360))
}

// P3.5: the entries of some places, in matrices of full rank and of a rank that is one less.
func TestAdjugateOfLargeMatrices(t *testing.T) {
	random := rand.New(rand.NewPCG(7, 8))
	n := 10
	for _, m := range [][][]api.Int{smallMatrix(random, n, n, 1), randomMatrix(random, n, n, 2), dependent(random, n, n-1, 3)} {
		adj, ok := matrix.Adjugate(m)
		if !ok || len(adj) != n || len(adj[0]) != n {
			t.Fatalf("Adjugate of %v: %v, %v", m, adj, ok)
		}
		v := valuesOf(m)
		for range 20 {
			i, j := random.IntN(n), random.IntN(n)
			expectNumber(t, "Adjugate", adj[i][j], ok, adjugateEntry(v, i, j))
		}
	}
}

// P3.5: two rows that depend on the others leave nothing.
func TestAdjugateOfLowRank(t *testing.T) {
	random := rand.New(rand.NewPCG(9, 10))
	for _, rank := range []int{0, 1, 7, api.MaxSize - 2} {
		adj, ok := matrix.Adjugate(dependent(random, api.MaxSize, rank, 5))
		expect(t, "Adjugate", adj, ok, valuesOfInts(wide(api.MaxSize, api.MaxSize)))
	}
}

// P3.5
func TestAdjugateOfOneEntry(t *testing.T) {
	for _, a := range []api.Int{small(0), small(1), small(-1), small(5), {Neg: true, Mag: []uint32{0, 0, 1}}, {}} {
		adj, ok := matrix.Adjugate([][]api.Int{{a}})
		expect(t, "Adjugate", adj, ok, valuesOfInts(ints{{1}}))
	}
}

// notSquare returns matrices that are not square, valid or not.
func notSquare() []ints {
	return append(notValid(), ints{{1, 2, 3}, {4, 5, 6}}, ints{{1}, {2}}, ints{{1, 0}}, wide(1, 16), wide(16, 1), wide(16, 15), wide(15, 16))
}

// P3.4, P3.5, P3.6
func TestNotSquare(t *testing.T) {
	for _, l := range notSquare() {
		det, ok := matrix.Det(of(l))
		expectNoNumber(t, "Det", det, ok)
		adj, ok := matrix.Adjugate(of(l))
		expectNone(t, "Adjugate", adj, ok)
		inverse, ok := matrix.Inverse(of(l))
		expectNone(t, "Inverse", inverse, ok)
	}
}

// chosen returns the ascending list of the members of a set.
func chosen(set int) []int {
	var list []int
	for i := range bits.Len(uint(set)) {
		if set>>i&1 == 1 {
			list = append(list, i)
		}
	}
	return list
}

// P3.4: all minors of two matrices.
func TestMinor(t *testing.T) {
	random := rand.New(rand.NewPCG(11, 12))
	for _, shape := range [][2]int{{3, 5}, {5, 3}, {4, 4}, {1, 1}} {
		m := smallMatrix(random, shape[0], shape[1], 5)
		v := valuesOf(m)
		for r := 1; r < 1<<shape[0]; r++ {
			for c := 1; c < 1<<shape[1]; c++ {
				rows, cols := chosen(r), chosen(c)
				got, ok := matrix.Minor(m, rows, cols)
				if len(rows) != len(cols) {
					expectNoNumber(t, "Minor", got, ok)
					continue
				}
				part := make(values, len(rows))
				for k, i := range rows {
					for _, j := range cols {
						part[k] = append(part[k], v[i][j])
					}
				}
				expectNumber(t, "Minor", got, ok, determinant(part))
			}
		}
	}
}

// P3.4: the greatest minors.
func TestMinorOfAllRows(t *testing.T) {
	m := randomMatrix(rand.New(rand.NewPCG(13, 14)), api.MaxSize, api.MaxSize, 1)
	all := chosen(1<<api.MaxSize - 1)
	minor, ok := matrix.Minor(m, all, all)
	det, _ := matrix.Det(m)
	expectNumber(t, "Minor", minor, ok, value(det))
	minor, ok = matrix.Minor(m, []int{15}, []int{15})
	expectNumber(t, "Minor", minor, ok, value(m[15][15]))
}

// P3.4
func TestMinorOfWrongLists(t *testing.T) {
	m := of(ints{{1, 2, 3}, {4, 5, 6}})
	for _, c := range [][2][]int{
		{nil, nil}, {{}, {}}, {nil, {0}}, {{0}, nil}, {{0, 1}, {0}}, {{0}, {0, 1}},
		{{0, 1}, {2, 0}}, {{1, 0}, {0, 1}}, {{1, 0}, {1, 0}}, {{0, 0}, {0, 1}}, {{0, 1}, {1, 1}},
		{{0, 2}, {0, 1}}, {{2}, {0}}, {{0}, {3}}, {{-1}, {0}}, {{0}, {-1}}, {{-1, 0}, {0, 1}}, {{0, 1}, {1, 3}}, {{0, 1}, {-1, 2}},
		{{0, 1, 2}, {0, 1, 2}}, {{math.MinInt}, {0}}, {{0}, {math.MaxInt}}, {{0, math.MaxInt}, {0, 1}}, {{math.MinInt, 1}, {0, 1}}, {make([]int, 1000), make([]int, 1000)},
	} {
		got, ok := matrix.Minor(m, c[0], c[1])
		expectNoNumber(t, "Minor", got, ok)
		got, ok = matrix.Minor(must(matrix.Transpose(m)), c[1], c[0])
		expectNoNumber(t, "Minor of the transposed matrix", got, ok)
	}
	for _, l := range notValid() {
		for _, list := range [][]int{nil, {0}, {0, 1}} {
			got, ok := matrix.Minor(of(l), list, list)
			expectNoNumber(t, "Minor", got, ok)
		}
	}
}

// expectInverse checks that got is the inverse of m.
func expectInverse(t *testing.T, m, got [][]api.Int, ok bool) {
	t.Helper()
	one := valuesOf(must(matrix.Identity(len(m))))
	if !ok || len(got) != len(m) {
		t.Fatalf("Inverse of %v: %v, %v", m, got, ok)
	}
	expect(t, "m times Inverse(m)", must(matrix.Mul(m, got)), true, one)
	expect(t, "Inverse, canonical", got, ok, valuesOf(got))
}

// P3.6
func TestInverse(t *testing.T) {
	for _, c := range [][2]ints{
		{{{1}}, {{1}}}, {{{-1}}, {{-1}}}, {{{2, 1}, {1, 1}}, {{1, -1}, {-1, 2}}}, {{{0, 1}, {1, 0}}, {{0, 1}, {1, 0}}}, {{{0, 1}, {-1, 0}}, {{0, -1}, {1, 0}}},
		{{{1, math.MaxInt64}, {0, -1}}, {{1, math.MaxInt64}, {0, -1}}}, {{{1, 2, 3}, {0, 1, 4}, {5, 6, 0}}, {{-24, 18, 5}, {20, -15, -4}, {-5, 4, 1}}},
		{{{0, 0, 1}, {1, 0, 0}, {0, 1, 0}}, {{0, 1, 0}, {0, 0, 1}, {1, 0, 0}}},
	} {
		got, ok := matrix.Inverse(of(c[0]))
		expect(t, "Inverse", got, ok, valuesOfInts(c[1]))
	}
	random := rand.New(rand.NewPCG(15, 16))
	for n := 1; n <= api.MaxSize; n++ {
		for range 20 {
			m := unimodular(random, n)
			got, ok := matrix.Inverse(m)
			expectInverse(t, m, got, ok)
		}
	}
}

// P3.6: the inverse has entries that do not fit in an int64.
func TestInverseWithLongEntries(t *testing.T) {
	n := api.MaxSize
	m := must(matrix.Identity(n))
	for i := range n - 1 {
		m[i][i+1] = api.Int{Mag: []uint32{5, 0, 7, 0}}
	}
	got, ok := matrix.Inverse(m)
	expectInverse(t, m, got, ok)
}

// P3.6: determinants that are not 1 or -1.
func TestInverseOfOtherDeterminants(t *testing.T) {
	for _, l := range squares() {
		det := determinant(valuesOfInts(l))
		if det.IsInt64() && (det.Int64() == 1 || det.Int64() == -1) {
			continue
		}
		got, ok := matrix.Inverse(of(l))
		expectNone(t, "Inverse", got, ok)
	}
	random := rand.New(rand.NewPCG(17, 18))
	for _, factor := range []api.Int{small(0), small(2), small(-2), {Mag: []uint32{1, 1}}, {Mag: []uint32{1, 0, 1}}, {Neg: true, Mag: []uint32{1, 0, 1}}} {
		for n := 1; n <= api.MaxSize; n++ {
			m := unimodular(random, n)
			for j := range m[0] {
				m[0][j] = integer.Mul(m[0][j], factor)
			}
			got, ok := matrix.Inverse(m)
			expectNone(t, "Inverse", got, ok)
		}
	}
}

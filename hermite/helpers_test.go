package hermite_test

import (
	"math/big"
	"math/rand/v2"
	"slices"
	"testing"

	"quadform/api"
	"quadform/bareiss"
	"quadform/integer"
	"quadform/matrix"
)

type ints = [][]int64

// small returns an Int that denotes n and is not canonical.
func small(n int64) api.Int {
	a := integer.Small(n)
	return api.Int{Neg: a.Neg || n == 0, Mag: append(slices.Clone(a.Mag), 0)}
}

// column returns a column of numbers that are not canonical.
func column(list ...int64) []api.Int {
	var x []api.Int
	for _, n := range list {
		x = append(x, small(n))
	}
	return x
}

// of returns a matrix whose entries are not canonical.
func of(l ints) [][]api.Int {
	var m [][]api.Int
	for _, row := range l {
		m = append(m, column(row...))
	}
	return m
}

// zeros returns the matrix 0 of this shape.
func zeros(rows, cols int) ints {
	l := make(ints, rows)
	for i := range l {
		l[i] = make([]int64, cols)
	}
	return l
}

// value returns the number that a denotes.
func value(a api.Int) *big.Int {
	v, ok := new(big.Int).SetString(integer.Format(a), 10)
	if !ok {
		panic(integer.Format(a))
	}
	return v
}

// isCanonical reports whether all entries are canonical.
func isCanonical(m [][]api.Int) bool {
	return !slices.ContainsFunc(slices.Concat(m...), func(a api.Int) bool {
		canonical := integer.Normalize(a)
		return a.Neg != canonical.Neg || !slices.Equal(a.Mag, canonical.Mag)
	})
}

// isMatrix reports whether m is the matrix want, in canonical Ints.
func isMatrix(m, want [][]api.Int) bool {
	return isCanonical(m) && matrix.Equal(m, want)
}

// isUnimodular reports whether m is square and has the determinant 1 or -1.
func isUnimodular(m [][]api.Int) bool {
	det, ok := matrix.Det(m)
	return ok && value(det).IsInt64() && (value(det).Int64() == 1 || value(det).Int64() == -1)
}

// isZero reports whether all numbers are 0.
func isZero(x []api.Int) bool {
	return !slices.ContainsFunc(x, func(a api.Int) bool { return integer.Sign(a) != 0 })
}

// pivotRows returns the rows of the pivots of a Hermite form; false if h is not one.
func pivotRows(h [][]api.Int) ([]int, bool) {
	var rows []int
	transposed := must(matrix.Transpose(h))
	for c, x := range transposed {
		if isZero(x) {
			return rows, !slices.ContainsFunc(transposed[c:], func(x []api.Int) bool { return !isZero(x) })
		}
		p := slices.IndexFunc(x, func(a api.Int) bool { return integer.Sign(a) != 0 })
		if value(x[p]).Sign() < 0 || c > 0 && rows[c-1] >= p {
			return nil, false
		}
		for _, ahead := range transposed[:c] {
			if value(ahead[p]).Sign() < 0 || value(ahead[p]).Cmp(value(x[p])) >= 0 {
				return nil, false
			}
		}
		rows = append(rows, p)
	}
	return rows, true
}

// must returns the value of a call that has one.
func must[T any](value T, ok bool) T {
	if !ok {
		panic("there is no value")
	}
	return value
}

// expectNone checks that there is no value: ok is false and got is empty.
func expectNone[T any](t *testing.T, what string, got []T, ok bool) {
	t.Helper()
	if ok || len(got) > 0 {
		t.Errorf("%s: got %v, %v, want no value", what, got, ok)
	}
}

// choices calls f with all lists of size ascending numbers from first to less than end.
func choices(first, end, size int, f func(list []int)) {
	if size == 0 {
		f(nil)
		return
	}
	for n := first; n+size <= end; n++ {
		choices(n+1, end, size-1, func(list []int) { f(append([]int{n}, list...)) })
	}
}

// divisorOfMinors returns the rank of m and the greatest common divisor of the minors of this size.
// If a lattice contains another one of the same rank, its index is the quotient of their divisors.
func divisorOfMinors(m [][]api.Int) (int, *big.Int) {
	rank, divisor := must(bareiss.Rank(m)), new(big.Int)
	if rank == 0 {
		return 0, divisor
	}
	choices(0, len(m), rank, func(rows []int) {
		choices(0, len(m[0]), rank, func(cols []int) {
			minor := value(must(matrix.Minor(m, rows, cols)))
			divisor.GCD(nil, nil, divisor, minor.Abs(minor))
		})
	})
	return rank, divisor
}

// beside returns the columns of a and then those of b.
func beside(a, b [][]api.Int) [][]api.Int {
	var m [][]api.Int
	for i := range a {
		m = append(m, slices.Concat(a[i], b[i]))
	}
	return m
}

// containsLattice reports whether the lattice of a contains that of b, by minors.
func containsLattice(a, b [][]api.Int) bool {
	rank, divisor := divisorOfMinors(a)
	both, common := divisorOfMinors(beside(a, b))
	return rank == both && divisor.Cmp(common) == 0
}

// upright returns the matrix with the one column x.
func upright(x []api.Int) [][]api.Int {
	return must(matrix.Transpose([][]api.Int{x}))
}

// notValid returns matrices that are not valid.
func notValid() []ints {
	return []ints{
		nil, {}, {{}}, {nil}, {{}, {}}, {{1, 2}, {3}}, {{1}, {2, 3}}, {{1, 2}, {}}, {{}, {1, 2}}, {{1}, nil}, {nil, {1}}, {{1, 2, 3}, {4, 5, 6}, {7, 8, 9, 10}}, {{1, 2}, {3, 4, 5}},
		zeros(api.MaxSize+1, api.MaxSize+1), zeros(api.MaxSize+1, 1), zeros(1, api.MaxSize+1), zeros(api.MaxSize, api.MaxSize+1), zeros(api.MaxSize+1, api.MaxSize), zeros(1000, 0), zeros(3, 1000),
		append(zeros(api.MaxSize-1, api.MaxSize), make([]int64, api.MaxSize-1)),
	}
}

// few returns matrices of at most 5 rows and columns.
func few() [][][]api.Int {
	var list [][][]api.Int
	for _, l := range []ints{
		{{0}}, {{1}}, {{-1}}, {{-7}}, {{1 << 62}}, {{-1 << 63}},
		{{4, 6}}, {{0, 0}}, {{0, 5}}, {{-4, 0}}, {{6, 10, 15}}, {{12, -18, 30, 0}}, {{2}, {3}}, {{2}, {4}}, {{0}, {-3}}, {{0}, {0}}, {{0}, {0}, {5}},
		{{2, 1}, {0, 3}}, {{1, 0}, {7, 5}}, {{1, 0}, {-1, 5}}, {{0, 1}, {1, 0}}, {{0, 2}, {0, 5}}, {{2, 4}, {1, 2}}, {{0, 0}, {3, 2}}, {{2, 2}, {2, 2}}, {{-3, -5}, {2, 0}}, {{3, 0}, {0, -3}},
		{{2, 4, 6}}, {{0, 0, 0}, {6, 10, 15}}, {{3, 0, 0}, {0, 0, 2}, {0, 4, 1}}, {{1, 2, 3}, {4, 5, 6}, {7, 8, 9}}, {{0, 0, 0}, {1, 2, 3}, {0, 0, 0}}, {{2, 0, 0}, {0, 2, 0}, {0, 0, 2}}, {{0, 0, 7}, {0, 5, 1}, {3, 1, 1}}, {{6, 10}, {10, 15}, {15, 6}}, {{1, 1}, {1, 1}, {0, 5}}, {{4, 6, 9}, {6, 9, 4}},
		zeros(2, 2), zeros(3, 2), zeros(2, 3), zeros(5, 5),
	} {
		list = append(list, of(l))
	}
	random := rand.New(rand.NewPCG(1, 2))
	for rows := 1; rows <= 5; rows++ {
		for cols := 1; cols <= 5; cols++ {
			list = append(list,
				smallMatrix(random, rows, cols, 1), smallMatrix(random, rows, cols, 3), smallMatrix(random, rows, cols, 20), longMatrix(random, rows, cols, 4),
				dependent(random, rows, cols, min(rows, cols)-1), dependent(random, rows, cols, (min(rows, cols)+1)/2), multiples(random, rows, cols))
		}
	}
	return list
}

// samples returns matrices of all sizes.
func samples() [][][]api.Int {
	list := few()
	random := rand.New(rand.NewPCG(3, 4))
	for size := 6; size <= api.MaxSize; size++ {
		other := 1 + random.IntN(api.MaxSize)
		list = append(list,
			smallMatrix(random, size, size, 3), longMatrix(random, size, size, 2), dependent(random, size, size, size-2), multiples(random, size, size), unimodular(random, size),
			smallMatrix(random, size, other, 2), smallMatrix(random, other, size, 9), dependent(random, size, other, min(size, other, 4)), dependent(random, other, size, min(size, other, 4)), longMatrix(random, other, size, 2))
	}
	return append(list, of(zeros(16, 16)), of(zeros(1, 16)), of(zeros(16, 1)), longMatrix(random, 16, 1, 5), longMatrix(random, 1, 16, 5))
}

// forTinyMatrices calls f with all matrices of this shape with entries from low to high.
func forTinyMatrices(rows, cols int, low, high int64, f func(m [][]api.Int)) {
	l := zeros(rows, cols)
	var fill func(place int)
	fill = func(place int) {
		if place == rows*cols {
			f(of(l))
			return
		}
		for n := low; n <= high; n++ {
			l[place/cols][place%cols] = n
			fill(place + 1)
		}
	}
	fill(0)
}

// build returns the matrix with these entries.
func build(rows, cols int, entry func(i, j int) api.Int) [][]api.Int {
	m := make([][]api.Int, rows)
	for i := range m {
		for j := range cols {
			m[i] = append(m[i], entry(i, j))
		}
	}
	return m
}

// smallMatrix returns a matrix with entries from -limit to limit.
func smallMatrix(random *rand.Rand, rows, cols, limit int) [][]api.Int {
	return build(rows, cols, func(i, j int) api.Int { return small(int64(random.IntN(2*limit+1) - limit)) })
}

// longMatrix returns a matrix with entries of up to size limbs, which may not be canonical.
func longMatrix(random *rand.Rand, rows, cols, size int) [][]api.Int {
	return build(rows, cols, func(i, j int) api.Int {
		a := api.Int{Neg: random.IntN(2) == 0, Mag: make([]uint32, random.IntN(size+1))}
		for k := range a.Mag {
			a.Mag[k] = random.Uint32() >> random.IntN(33)
		}
		return a
	})
}

// dependent returns a matrix of a rank of at most rank.
func dependent(random *rand.Rand, rows, cols, rank int) [][]api.Int {
	if rank == 0 {
		return of(zeros(rows, cols))
	}
	return must(matrix.Mul(smallMatrix(random, rows, rank, 5), smallMatrix(random, rank, cols, 5)))
}

// multiples returns a matrix whose pivots are mostly greater than 1: the entries of each row have a common divisor.
func multiples(random *rand.Rand, rows, cols int) [][]api.Int {
	m := smallMatrix(random, rows, cols, 5)
	for i := range m {
		factor := small(int64(1 + random.IntN(30)))
		for j := range m[i] {
			m[i][j] = integer.Mul(factor, m[i][j])
		}
	}
	return m
}

// triangular returns a matrix with zeros above the diagonal, on which 1 and -1 stand.
func triangular(random *rand.Rand, n int) [][]api.Int {
	return build(n, n, func(i, j int) api.Int {
		if i == j {
			return small(int64(1 - 2*random.IntN(2)))
		}
		if i < j {
			return small(0)
		}
		return small(int64(random.IntN(5) - 2))
	})
}

// unimodular returns a unimodular matrix.
func unimodular(random *rand.Rand, n int) [][]api.Int {
	return must(matrix.Mul(triangular(random, n), must(matrix.Transpose(triangular(random, n)))))
}

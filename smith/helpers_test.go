package smith_test

import (
	"math/big"
	"math/rand/v2"
	"slices"
	"testing"

	"quadform/api"
	"quadform/integer"
	"quadform/matrix"
)

type ints = [][]int64

// small returns an Int that denotes n and is not canonical.
func small(n int64) api.Int {
	a := integer.Small(n)
	return api.Int{Neg: a.Neg || n == 0, Mag: append(slices.Clone(a.Mag), 0)}
}

// of returns a matrix whose entries are not canonical.
func of(l ints) [][]api.Int {
	var m [][]api.Int
	for _, row := range l {
		var entries []api.Int
		for _, n := range row {
			entries = append(entries, small(n))
		}
		m = append(m, entries)
	}
	return m
}

// zeros returns the matrix 0 of this shape.
func zeros(rows, cols int) ints {
	l := make(ints, rows)
	for i := range l {
		l[i] = make([]int64, cols)
	}
	return l
}

// value returns the number that a denotes.
func value(a api.Int) *big.Int {
	v, ok := new(big.Int).SetString(integer.Format(a), 10)
	if !ok {
		panic(integer.Format(a))
	}
	return v
}

// values returns the numbers that the elements of a list denote.
func values(list []api.Int) []*big.Int {
	var out []*big.Int
	for _, a := range list {
		out = append(out, value(a))
	}
	return out
}

// bigs returns numbers as values.
func bigs(numbers ...int64) []*big.Int {
	var out []*big.Int
	for _, n := range numbers {
		out = append(out, big.NewInt(n))
	}
	return out
}

// isCanonical reports whether all numbers are canonical.
func isCanonical(list []api.Int) bool {
	return !slices.ContainsFunc(list, func(a api.Int) bool {
		canonical := integer.Normalize(a)
		return a.Neg != canonical.Neg || !slices.Equal(a.Mag, canonical.Mag)
	})
}

// isList reports whether a list consists of the numbers want, in canonical Ints.
func isList(list []api.Int, want []*big.Int) bool {
	return isCanonical(list) && slices.EqualFunc(values(list), want, func(a, b *big.Int) bool { return a.Cmp(b) == 0 })
}

// isUnimodular reports whether m has n rows and columns and the determinant 1 or -1.
func isUnimodular(m [][]api.Int, n int) bool {
	det, ok := matrix.Det(m)
	return ok && len(m) == n && value(det).CmpAbs(big.NewInt(1)) == 0
}

// must returns the value of a call that has one.
func must[T any](value T, ok bool) T {
	if !ok {
		panic("there is no value")
	}
	return value
}

// expectNone checks that there is no value: ok is false and got is empty.
func expectNone[T any](t *testing.T, what string, got []T, ok bool) {
	t.Helper()
	if ok || len(got) > 0 {
		t.Errorf("%s: got %v, %v, want no value", what, got, ok)
	}
}

// choices calls f with all lists of size ascending numbers from first to less than end.
func choices(first, end, size int, f func(list []int)) {
	if size == 0 {
		f(nil)
		return
	}
	for n := first; n+size <= end; n++ {
		choices(n+1, end, size-1, func(list []int) { f(append([]int{n}, list...)) })
	}
}

// divisorsOfMinors returns the greatest common divisors of the minors of the sizes 1, 2, ..
func divisorsOfMinors(m [][]api.Int) []*big.Int {
	var list []*big.Int
	for size := 1; size <= min(len(m), len(m[0])); size++ {
		divisor := new(big.Int)
		choices(0, len(m), size, func(rows []int) {
			choices(0, len(m[0]), size, func(cols []int) {
				minor := value(must(matrix.Minor(m, rows, cols)))
				divisor.GCD(nil, nil, divisor, minor.Abs(minor))
			})
		})
		list = append(list, divisor)
	}
	return list
}

// quotients returns the numbers whose products are the divisors: each divided by the one ahead of it.
func quotients(divisors []*big.Int) []*big.Int {
	var list []*big.Int
	previous := big.NewInt(1)
	for _, d := range divisors {
		if d.Sign() == 0 {
			list = append(list, d)
			continue
		}
		list = append(list, new(big.Int).Quo(d, previous))
		previous = d
	}
	return list
}

// notValid returns matrices that are not valid.
func notValid() []ints {
	return []ints{
		nil, {}, {{}}, {nil}, {{}, {}}, {{1, 0}, {0}}, {{1}, {0, 3}}, {{1, 0}, {}}, {{}, {1, 0}}, {{1}, nil}, {nil, {1}}, {{1, 0, 0}, {0, 1, 0}, {0, 0, 1, 0}}, {{1, 0, 0}, {0, 1}},
		zeros(api.MaxSize+1, api.MaxSize+1), zeros(api.MaxSize+1, 1), zeros(1, api.MaxSize+1), zeros(api.MaxSize, api.MaxSize+1), zeros(api.MaxSize+1, api.MaxSize), zeros(1000, 0), zeros(3, 1000),
		append(zeros(api.MaxSize-1, api.MaxSize), make([]int64, api.MaxSize-1)),
	}
}

// few returns matrices of at most 5 rows and columns.
func few() [][][]api.Int {
	var list [][][]api.Int
	for _, l := range []ints{
		{{0}}, {{1}}, {{-1}}, {{-7}}, {{1 << 62}}, {{-1 << 63}},
		{{4, 6}}, {{0, 0}}, {{0, 5}}, {{-4, 0}}, {{6, 10, 15}}, {{12, -18, 30, 0}}, {{2}, {3}}, {{2}, {4}}, {{0}, {-3}}, {{0}, {0}}, {{0}, {0}, {5}},
		{{2, 0}, {0, 3}}, {{2, 1}, {0, 3}}, {{0, 2}, {2, 0}}, {{0, 2}, {0, 5}}, {{2, 4}, {1, 2}}, {{2, 2}, {2, 2}}, {{4, 0}, {0, 6}}, {{6, 0}, {0, 4}}, {{-3, 0}, {0, -3}}, {{0, 0}, {0, 2}},
		{{2, 0, 0}, {0, 0, 0}, {0, 0, 3}}, {{4, 0, 0}, {0, 6, 0}, {0, 0, 9}}, {{6, 0, 0}, {0, 10, 0}, {0, 0, 15}}, {{0, 0, 7}, {0, 5, 1}, {3, 1, 1}}, {{1, 2, 3}, {4, 5, 6}, {7, 8, 9}}, {{0, 0, 0}, {1, 2, 3}, {0, 0, 0}}, {{6, 10}, {10, 15}, {15, 6}}, {{4, 6, 9}, {6, 9, 4}},
		{{-5, 0, 0}, {0, 6, 6}, {0, -5, -1}}, {{-5, 0, 0}, {3, 6, 0}, {2, 0, 5}}, {{-6, 0, 0}, {0, 4, 0}, {-3, -3, -5}}, {{-4, 0, 0, 0}, {0, -6, 0, 0}, {0, -3, -5, -5}, {0, 0, 2, 1}},
		zeros(2, 2), zeros(3, 2), zeros(2, 3), zeros(5, 5),
	} {
		list = append(list, of(l))
	}
	random := rand.New(rand.NewPCG(1, 2))
	for rows := 1; rows <= 5; rows++ {
		for cols := 1; cols <= 5; cols++ {
			least := min(rows, cols)
			list = append(list,
				smallMatrix(random, rows, cols, 1), smallMatrix(random, rows, cols, 3), smallMatrix(random, rows, cols, 20), longMatrix(random, rows, cols, 4),
				dependent(random, rows, cols, least-1), dependent(random, rows, cols, (least+1)/2), multiples(random, rows, cols), diagonal(rows, cols, randomFactors(random, least, 60)))
			m, _ := withFactors(random, rows, cols)
			list = append(list, m)
		}
	}
	return list
}

// samples returns matrices of all sizes.
func samples() [][][]api.Int {
	list := few()
	random := rand.New(rand.NewPCG(3, 4))
	for size := 6; size <= api.MaxSize; size++ {
		other := 1 + random.IntN(api.MaxSize)
		list = append(list,
			smallMatrix(random, size, size, 3), longMatrix(random, size, size, 2), dependent(random, size, size, size-2), multiples(random, size, size), diagonal(size, size, randomFactors(random, size, 1000)), unimodular(random, size),
			smallMatrix(random, size, other, 2), smallMatrix(random, other, size, 9), dependent(random, size, other, min(size, other, 4)), dependent(random, other, size, min(size, other, 4)), longMatrix(random, other, size, 2))
	}
	return append(list, of(zeros(16, 16)), of(zeros(1, 16)), of(zeros(16, 1)), longMatrix(random, 16, 1, 5), longMatrix(random, 1, 16, 5))
}

// forTinyMatrices calls f with all matrices of this shape with entries from low to high.
func forTinyMatrices(rows, cols int, low, high int64, f func(l ints)) {
	l := zeros(rows, cols)
	var fill func(place int)
	fill = func(place int) {
		if place == rows*cols {
			f(l)
			return
		}
		for n := low; n <= high; n++ {
			l[place/cols][place%cols] = n
			fill(place + 1)
		}
	}
	fill(0)
}

// build returns the matrix with these entries.
func build(rows, cols int, entry func(i, j int) api.Int) [][]api.Int {
	m := make([][]api.Int, rows)
	for i := range m {
		for j := range cols {
			m[i] = append(m[i], entry(i, j))
		}
	}
	return m
}

// smallMatrix returns a matrix with entries from -limit to limit.
func smallMatrix(random *rand.Rand, rows, cols, limit int) [][]api.Int {
	return build(rows, cols, func(i, j int) api.Int { return small(int64(random.IntN(2*limit+1) - limit)) })
}

// longMatrix returns a matrix with entries of up to size limbs, which may not be canonical.
func longMatrix(random *rand.Rand, rows, cols, size int) [][]api.Int {
	return build(rows, cols, func(i, j int) api.Int {
		a := api.Int{Neg: random.IntN(2) == 0, Mag: make([]uint32, random.IntN(size+1))}
		for k := range a.Mag {
			a.Mag[k] = random.Uint32() >> random.IntN(33)
		}
		return a
	})
}

// dependent returns a matrix of a rank of at most rank.
func dependent(random *rand.Rand, rows, cols, rank int) [][]api.Int {
	if rank == 0 {
		return of(zeros(rows, cols))
	}
	return must(matrix.Mul(smallMatrix(random, rows, rank, 5), smallMatrix(random, rank, cols, 5)))
}

// multiples returns a matrix in which the entries of each row, and of each column, have a common divisor.
func multiples(random *rand.Rand, rows, cols int) [][]api.Int {
	byRow, byColumn := randomFactors(random, rows, 30), randomFactors(random, cols, 30)
	m := smallMatrix(random, rows, cols, 5)
	return build(rows, cols, func(i, j int) api.Int { return integer.Mul(m[i][j], integer.Mul(byRow[i], byColumn[j])) })
}

// randomFactors returns numbers from 1 to limit.
func randomFactors(random *rand.Rand, size, limit int) []api.Int {
	return build(1, size, func(i, j int) api.Int { return small(int64(1 + random.IntN(limit))) })[0]
}

// diagonal returns the matrix with these entries (0, 0), (1, 1), .. and with 0 elsewhere.
func diagonal(rows, cols int, entries []api.Int) [][]api.Int {
	return build(rows, cols, func(i, j int) api.Int {
		if i != j || i >= len(entries) {
			return small(0)
		}
		return entries[i]
	})
}

// triangular returns a matrix with zeros above the diagonal, on which 1 and -1 stand.
func triangular(random *rand.Rand, n int) [][]api.Int {
	return build(n, n, func(i, j int) api.Int {
		if i == j {
			return small(int64(1 - 2*random.IntN(2)))
		}
		if i < j {
			return small(0)
		}
		return small(int64(random.IntN(5) - 2))
	})
}

// unimodular returns a unimodular matrix.
func unimodular(random *rand.Rand, n int) [][]api.Int {
	return must(matrix.Mul(triangular(random, n), must(matrix.Transpose(triangular(random, n)))))
}

// between returns the product of a unimodular matrix, m, and a unimodular matrix.
func between(random *rand.Rand, m [][]api.Int) [][]api.Int {
	return must(matrix.Mul(must(matrix.Mul(unimodular(random, len(m)), m)), unimodular(random, len(m[0]))))
}

// withFactors returns a matrix, and its invariant factors: each divides the next one, and some of the last ones may be 0.
func withFactors(random *rand.Rand, rows, cols int) ([][]api.Int, []*big.Int) {
	size := min(rows, cols)
	rank := size - random.IntN(2)*random.IntN(size+1)
	factors := make([]api.Int, size)
	last := small(int64(1 + random.IntN(3)))
	for i := range rank {
		last = integer.Mul(last, []api.Int{small(1), small(1), small(1), small(2), small(6), small(35), small(1 << 40)}[random.IntN(7)])
		factors[i] = last
	}
	return between(random, diagonal(rows, cols, factors)), values(factors)
}

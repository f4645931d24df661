package matrix_test

import (
	"math/big"
	"math/rand/v2"
	"slices"
	"testing"

	"quadform/api"
	"quadform/integer"
	"quadform/matrix"
)

type ints = [][]int64

// values is a matrix by package big, to compare with.
type values = [][]*big.Int

// loose returns an Int that denotes a and is not canonical.
func loose(a api.Int) api.Int {
	return api.Int{Neg: a.Neg || len(a.Mag) == 0, Mag: append(slices.Clone(a.Mag), 0, 0)}
}

// small returns the Int n, and not the canonical one.
func small(n int64) api.Int { return loose(integer.Small(n)) }

// column returns a column of numbers that are not canonical.
func column(list ...int64) []api.Int {
	var x []api.Int
	for _, n := range list {
		x = append(x, small(n))
	}
	return x
}

// of returns a matrix whose entries are not canonical.
func of(l ints) [][]api.Int {
	var m [][]api.Int
	for _, row := range l {
		m = append(m, column(row...))
	}
	return m
}

// wide returns the matrix 0 of this shape.
func wide(rows, cols int) ints {
	l := make(ints, rows)
	for i := range l {
		l[i] = make([]int64, cols)
	}
	return l
}

// value returns the integer that a denotes.
func value(a api.Int) *big.Int {
	v, ok := new(big.Int).SetString(integer.Format(a), 10)
	if !ok {
		panic(integer.Format(a))
	}
	return v
}

func valuesOf(m [][]api.Int) values {
	var out values
	for _, row := range m {
		var entries []*big.Int
		for _, a := range row {
			entries = append(entries, value(a))
		}
		out = append(out, entries)
	}
	return out
}

func valuesOfInts(l ints) values {
	return valuesOf(of(l))
}

func isCanonical(a api.Int) bool {
	if len(a.Mag) == 0 {
		return !a.Neg
	}
	return a.Mag[len(a.Mag)-1] != 0
}

// isNumber reports whether a is the canonical Int of want.
func isNumber(a api.Int, want *big.Int) bool {
	return isCanonical(a) && value(a).Cmp(want) == 0
}

// isMatrix reports whether m consists of the canonical Ints of want.
func isMatrix(m [][]api.Int, want values) bool {
	return slices.EqualFunc(m, want, func(row []api.Int, entries []*big.Int) bool {
		return slices.EqualFunc(row, entries, isNumber)
	})
}

// expect checks that there is a value, and that it is the matrix want, canonical.
func expect(t *testing.T, what string, got [][]api.Int, ok bool, want values) {
	t.Helper()
	if !ok || !isMatrix(got, want) {
		t.Errorf("%s: got %v, %v, want %v", what, got, ok, want)
	}
}

// expectNumber checks that there is a value, and that it is the number want, canonical.
func expectNumber(t *testing.T, what string, got api.Int, ok bool, want *big.Int) {
	t.Helper()
	if !ok || !isNumber(got, want) {
		t.Errorf("%s: got %v, %v, want %v", what, got, ok, want)
	}
}

// expectNone checks that there is no value: ok is false and got is empty.
func expectNone(t *testing.T, what string, got [][]api.Int, ok bool) {
	t.Helper()
	if ok || len(got) > 0 {
		t.Errorf("%s: got %v, %v, want no value", what, got, ok)
	}
}

// expectNoNumber checks that there is no value: ok is false and got is the zero value.
func expectNoNumber(t *testing.T, what string, got api.Int, ok bool) {
	t.Helper()
	if ok || got.Neg || len(got.Mag) > 0 {
		t.Errorf("%s: got %v, %v, want no value", what, got, ok)
	}
}

// notValid returns matrices that are not valid.
func notValid() []ints {
	return []ints{
		nil, {}, {{}}, {nil}, {{}, {}}, {nil, {}},
		{{1, 2}, {3}}, {{1}, {2, 3}}, {{1, 2}, {}}, {{}, {1}}, {nil, {1}}, {{1}, nil}, {{1, 2}, {3, 4}, {5}}, {{1, 2}, {3}, {4, 5}}, {{1, 2, 3}, {4, 5, 6}, {7, 8, 9, 10}},
		wide(api.MaxSize+1, 1), wide(1, api.MaxSize+1), wide(api.MaxSize+1, api.MaxSize+1), wide(api.MaxSize, api.MaxSize+1), wide(api.MaxSize+1, api.MaxSize),
		append(wide(api.MaxSize-1, api.MaxSize), make([]int64, api.MaxSize+1)), wide(1000, 0), wide(1000, 3), wide(3, 1000),
	}
}

// shapes calls f with shapes from 1 by 1 to MaxSize by MaxSize.
func shapes(f func(rows, cols int)) {
	for _, rows := range []int{1, 2, 3, 5, api.MaxSize - 1, api.MaxSize} {
		for _, cols := range []int{1, 2, 4, api.MaxSize} {
			f(rows, cols)
		}
	}
}

// randomNumber returns an Int of up to size limbs, which may not be canonical.
func randomNumber(random *rand.Rand, size int) api.Int {
	a := api.Int{Neg: random.IntN(2) == 0, Mag: make([]uint32, random.IntN(size+1))}
	for i := range a.Mag {
		a.Mag[i] = random.Uint32() >> random.IntN(33)
	}
	return a
}

// randomMatrix returns a matrix with entries of up to size limbs.
func randomMatrix(random *rand.Rand, rows, cols, size int) [][]api.Int {
	m := make([][]api.Int, rows)
	for i := range m {
		m[i] = randomColumn(random, cols, size)
	}
	return m
}

func randomColumn(random *rand.Rand, rows, size int) []api.Int {
	x := make([]api.Int, rows)
	for i := range x {
		x[i] = randomNumber(random, size)
	}
	return x
}

// smallMatrix returns a matrix with entries from -limit to limit.
func smallMatrix(random *rand.Rand, rows, cols, limit int) [][]api.Int {
	m := make([][]api.Int, rows)
	for i := range m {
		for range cols {
			m[i] = append(m[i], small(int64(random.IntN(2*limit+1)-limit)))
		}
	}
	return m
}

// must returns the value of a call that has one.
func must[T any](value T, ok bool) T {
	if !ok {
		panic("there is no value")
	}
	return value
}

// dependent returns an n by n matrix of a rank of at most rank.
func dependent(random *rand.Rand, n, rank, limit int) [][]api.Int {
	if rank == 0 {
		return of(wide(n, n))
	}
	return must(matrix.Mul(smallMatrix(random, n, rank, limit), smallMatrix(random, rank, n, limit)))
}

// unimodular returns a product of elementary matrices; its determinant is 1 or -1.
func unimodular(random *rand.Rand, n int) [][]api.Int {
	m := must(matrix.Identity(n))
	for i := range m {
		if random.IntN(2) == 0 {
			m[i][i] = integer.Neg(m[i][i])
		}
	}
	random.Shuffle(n, func(i, j int) { m[i], m[j] = m[j], m[i] })
	for range 4 * n {
		i, j := random.IntN(n), random.IntN(n)
		if i != j {
			factor := integer.Small(int64(random.IntN(7) - 3))
			for k := range m[i] {
				m[i][k] = integer.Add(m[i][k], integer.Mul(factor, m[j][k]))
			}
		}
	}
	return m
}

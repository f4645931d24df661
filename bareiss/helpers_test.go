package bareiss_test

import (
	"math/big"
	"math/rand/v2"
	"slices"
	"testing"

	"quadform/api"
	"quadform/integer"
	"quadform/matrix"
	"quadform/rational"
)

type ints = [][]int64

// fractions is a matrix by package big, to compare with.
type fractions = [][]*big.Rat

// small returns an Int that denotes n and is not canonical.
func small(n int64) api.Int {
	a := integer.Small(n)
	return api.Int{Neg: a.Neg || n == 0, Mag: append(slices.Clone(a.Mag), 0)}
}

// column returns a column of numbers that are not canonical.
func column(list ...int64) []api.Int {
	var x []api.Int
	for _, n := range list {
		x = append(x, small(n))
	}
	return x
}

// of returns a matrix whose entries are not canonical.
func of(l ints) [][]api.Int {
	var m [][]api.Int
	for _, row := range l {
		m = append(m, column(row...))
	}
	return m
}

// zeros returns the matrix 0 of this shape.
func zeros(rows, cols int) ints {
	l := make(ints, rows)
	for i := range l {
		l[i] = make([]int64, cols)
	}
	return l
}

// value returns the number that a denotes.
func value(a api.Int) *big.Rat {
	v, ok := new(big.Rat).SetString(integer.Format(a))
	if !ok {
		panic(integer.Format(a))
	}
	return v
}

func valuesOf(x []api.Int) []*big.Rat {
	var list []*big.Rat
	for _, a := range x {
		list = append(list, value(a))
	}
	return list
}

func fractionsOf(m [][]api.Int) fractions {
	var out fractions
	for _, row := range m {
		out = append(out, valuesOf(row))
	}
	return out
}

// isNumber reports whether a is the canonical Int of want.
func isNumber(a api.Int, want *big.Rat) bool {
	canonical := integer.Normalize(a)
	return a.Neg == canonical.Neg && slices.Equal(a.Mag, canonical.Mag) && value(a).Cmp(want) == 0
}

// isFraction reports whether a is the canonical Rat of want.
func isFraction(a api.Rat, want *big.Rat) bool {
	return isNumber(a.Num, new(big.Rat).SetInt(want.Num())) && isNumber(a.Den, new(big.Rat).SetInt(want.Denom()))
}

// isMatrix reports whether m consists of the canonical Ints of want.
func isMatrix(m [][]api.Int, want fractions) bool {
	return slices.EqualFunc(m, want, func(row []api.Int, entries []*big.Rat) bool {
		return slices.EqualFunc(row, entries, isNumber)
	})
}

// rankAndDet eliminates by package big: it returns the rank, and the determinant if m is square.
func rankAndDet(m fractions) (int, *big.Rat) {
	rows, det, rank := slices.Clone(m), big.NewRat(1, 1), 0
	for j := range m[0] {
		i := slices.IndexFunc(rows[rank:], func(row []*big.Rat) bool { return row[j].Sign() != 0 })
		if i < 0 {
			continue
		}
		if i > 0 {
			rows[rank], rows[rank+i] = rows[rank+i], rows[rank]
			det.Neg(det)
		}
		det.Mul(det, rows[rank][j])
		for k := rank + 1; k < len(rows); k++ {
			rows[k] = minusMultiple(rows[k], rows[rank], new(big.Rat).Quo(rows[k][j], rows[rank][j]))
		}
		rank++
	}
	if rank < len(m) {
		det.SetInt64(0)
	}
	return rank, det
}

// minusMultiple returns x - factor y.
func minusMultiple(x, y []*big.Rat, factor *big.Rat) []*big.Rat {
	var out []*big.Rat
	for i := range x {
		out = append(out, new(big.Rat).Sub(x[i], new(big.Rat).Mul(factor, y[i])))
	}
	return out
}

// leadingMinors returns the leading minors by package big.
func leadingMinors(m [][]api.Int) []*big.Rat {
	var list []*big.Rat
	for k := range m {
		var part fractions
		for _, row := range m[:k+1] {
			part = append(part, valuesOf(row[:k+1]))
		}
		_, det := rankAndDet(part)
		list = append(list, det)
	}
	return list
}

// must returns the value of a call that has one.
func must[T any](value T, ok bool) T {
	if !ok {
		panic("there is no value")
	}
	return value
}

// expectNone checks that there is no value: ok is false and got is empty.
func expectNone[T any](t *testing.T, what string, got []T, ok bool) {
	t.Helper()
	if ok || len(got) > 0 {
		t.Errorf("%s: got %v, %v, want no value", what, got, ok)
	}
}

// notValid returns matrices that are not valid.
func notValid() []ints {
	return []ints{
		nil, {}, {{}}, {nil}, {{}, {}}, {{1, 2}, {3}}, {{1}, {2, 3}}, {{1, 2}, {}}, {{}, {1, 2}}, {{1}, nil}, {nil, {1}}, {{1, 2, 3}, {4, 5, 6}, {7, 8, 9, 10}}, {{1, 2}, {3, 4, 5}},
		zeros(api.MaxSize+1, api.MaxSize+1), zeros(api.MaxSize+1, 1), zeros(1, api.MaxSize+1), zeros(api.MaxSize, api.MaxSize+1), zeros(api.MaxSize+1, api.MaxSize), zeros(1000, 0), zeros(3, 1000),
		append(zeros(api.MaxSize-1, api.MaxSize), make([]int64, api.MaxSize-1)),
	}
}

// notSquare returns matrices that are not square, valid or not.
func notSquare() []ints {
	return append(notValid(), ints{{1, 2}}, ints{{1}, {2}}, ints{{1, 2, 3}, {4, 5, 6}}, ints{{1, 2}, {3, 4}, {5, 6}}, zeros(15, 16), zeros(16, 15), zeros(1, 16), zeros(16, 1))
}

// squares returns square matrices, most of them with minors that are 0.
func squares() [][][]api.Int {
	var list [][][]api.Int
	for _, l := range []ints{
		{{0}}, {{1}}, {{-7}}, {{1 << 62}},
		{{0, 0}, {0, 0}}, {{0, 1}, {1, 0}}, {{0, 1}, {0, 0}}, {{0, 0}, {1, 0}}, {{0, 0}, {0, 5}}, {{1, 2}, {2, 4}}, {{2, 1}, {1, 2}}, {{-3, 1}, {2, 0}}, {{2, 1}, {0, 2}}, {{1, 2}, {2, 1}},
		zeros(3, 3), {{1, 2, 3}, {2, 4, 5}, {3, 5, 6}}, {{2, 1, 0}, {1, 2, 1}, {0, 1, 2}}, {{0, 0, 1}, {0, 2, 0}, {0, 3, 5}}, {{0, 0, 1}, {0, 2, 0}, {3, 0, 0}}, {{1, 2, 3}, {4, 5, 6}, {7, 8, 9}}, {{0, 1, 2}, {3, 4, 5}, {6, 7, 9}}, {{1, 1, 1}, {1, 1, 2}, {1, 2, 1}}, {{0, 0, 0}, {0, 0, 0}, {0, 0, 4}},
		{{0, 0, 1, 0}, {1, 0, 0, 0}, {0, 0, 0, 1}, {0, 1, 0, 0}}, {{0, 1, 0, 0}, {1, 0, 0, 0}, {0, 0, 0, 1}, {0, 0, 1, 0}}, {{1, 1, 1, 1}, {1, 1, 1, 1}, {1, 1, 2, 3}, {1, 1, 3, 5}}, {{2, 1, 1, 1}, {1, 2, 1, 1}, {1, 1, 2, 1}, {1, 1, 1, 2}}, {{0, 0, 0, 0}, {0, 1, 2, 0}, {0, 3, 4, 0}, {0, 0, 0, 1}}, zeros(5, 5), zeros(16, 16),
	} {
		list = append(list, of(l))
	}
	random := rand.New(rand.NewPCG(1, 2))
	for n := 1; n <= 7; n++ {
		for range 20 {
			list = append(list, smallMatrix(random, n, n, 1), smallMatrix(random, n, n, 9), longMatrix(random, n, n, 4), dependent(random, n, n, n-1), dependent(random, n, n, n/2), symmetric(smallMatrix(random, n, n, 1)))
		}
	}
	return append(list, smallMatrix(random, 16, 16, 1), longMatrix(random, 16, 16, 2), dependent(random, 16, 16, 15), dependent(random, 16, 16, 8), symmetric(longMatrix(random, 16, 16, 2)))
}

// forTinyMatrices calls f with all 3 by 3 matrices with entries from -1 to 1.
func forTinyMatrices(f func(m [][]api.Int)) {
	for code := range 19683 {
		l := zeros(3, 3)
		for i := range 9 {
			l[i/3][i%3] = int64(code%3 - 1)
			code /= 3
		}
		f(of(l))
	}
}

// build returns the matrix with these entries.
func build(rows, cols int, entry func() api.Int) [][]api.Int {
	m := make([][]api.Int, rows)
	for i := range m {
		for range cols {
			m[i] = append(m[i], entry())
		}
	}
	return m
}

// smallMatrix returns a matrix with entries from -limit to limit.
func smallMatrix(random *rand.Rand, rows, cols, limit int) [][]api.Int {
	return build(rows, cols, func() api.Int { return small(int64(random.IntN(2*limit+1) - limit)) })
}

// longMatrix returns a matrix with entries of up to size limbs, which may not be canonical.
func longMatrix(random *rand.Rand, rows, cols, size int) [][]api.Int {
	return build(rows, cols, func() api.Int {
		a := api.Int{Neg: random.IntN(2) == 0, Mag: make([]uint32, random.IntN(size+1))}
		for i := range a.Mag {
			a.Mag[i] = random.Uint32() >> random.IntN(33)
		}
		return a
	})
}

// dependent returns a matrix of a rank of at most rank.
func dependent(random *rand.Rand, rows, cols, rank int) [][]api.Int {
	if rank == 0 {
		return of(zeros(rows, cols))
	}
	return must(matrix.Mul(smallMatrix(random, rows, rank, 5), smallMatrix(random, rank, cols, 5)))
}

// symmetric returns the sum of m and its transposed matrix.
func symmetric(m [][]api.Int) [][]api.Int {
	return must(matrix.Add(m, must(matrix.Transpose(m))))
}

// gram returns m'm plus the identity, which is positive definite.
func gram(m [][]api.Int) [][]api.Int {
	one := must(matrix.Identity(len(m[0])))
	return must(matrix.Add(must(matrix.Mul(must(matrix.Transpose(m)), m)), one))
}

// texts returns the numbers as texts.
func texts(list []api.Rat) []string {
	var out []string
	for _, a := range list {
		out = append(out, rational.Format(a))
	}
	return out
}

package gram_test

import (
	"math/big"
	"math/bits"
	"math/rand/v2"
	"slices"
	"testing"

	"quadform/api"
	"quadform/gram"
	"quadform/integer"
	"quadform/matrix"
)

type ints = [][]int64

// values is a matrix of numbers of package big.
type values = [][]*big.Int

var hexagon = ints{{2, 1}, {1, 2}}

// small returns an Int that denotes n and is not canonical.
func small(n int64) api.Int {
	a := integer.Small(n)
	return api.Int{Neg: a.Neg || n == 0, Mag: append(slices.Clone(a.Mag), 0)}
}

// list returns a list of numbers that are not canonical.
func list(numbers ...int64) []api.Int {
	var out []api.Int
	for _, n := range numbers {
		out = append(out, small(n))
	}
	return out
}

// of returns a matrix whose entries are not canonical.
func of(l ints) [][]api.Int {
	var m [][]api.Int
	for _, row := range l {
		m = append(m, list(row...))
	}
	return m
}

// zeros returns the matrix 0 of this shape.
func zeros(rows, cols int) ints {
	l := make(ints, rows)
	for i := range l {
		l[i] = make([]int64, cols)
	}
	return l
}

// unit returns the identity matrix.
func unit(n int) ints {
	l := zeros(n, n)
	for i := range l {
		l[i][i] = 1
	}
	return l
}

// value returns the number that a denotes.
func value(a api.Int) *big.Int {
	v := new(big.Int)
	for _, limb := range slices.Backward(a.Mag) {
		v.Add(v.Lsh(v, 32), big.NewInt(int64(limb)))
	}
	if a.Neg {
		v.Neg(v)
	}
	return v
}

// valuesOf returns the numbers that the entries of a matrix denote.
func valuesOf(m [][]api.Int) values {
	var out values
	for _, row := range m {
		var numbers []*big.Int
		for _, a := range row {
			numbers = append(numbers, value(a))
		}
		out = append(out, numbers)
	}
	return out
}

// big10 returns 10 to the n-th power.
func big10(n int64) *big.Int {
	return new(big.Int).Exp(big.NewInt(10), big.NewInt(n), nil)
}

// intOf returns an Int that denotes v and is not canonical.
func intOf(v *big.Int) api.Int {
	a := api.Int{Neg: v.Sign() <= 0}
	for rest := new(big.Int).Abs(v); rest.Sign() > 0; rest.Rsh(rest, 32) {
		a.Mag = append(a.Mag, uint32(rest.Uint64()))
	}
	a.Mag = append(a.Mag, 0)
	return a
}

// isCanonical reports whether a is canonical.
func isCanonical(a api.Int) bool {
	if len(a.Mag) == 0 {
		return !a.Neg
	}
	return a.Mag[len(a.Mag)-1] != 0
}

// isInt reports whether a denotes want and is canonical.
func isInt(a api.Int, want *big.Int) bool {
	return isCanonical(a) && value(a).Cmp(want) == 0
}

// expectInt checks a result without an error.
func expectInt(t *testing.T, what string, got api.Int, e api.Errno, want *big.Int) {
	t.Helper()
	if e != api.OK || !isInt(got, want) {
		t.Errorf("%s: %v, %d, want %v", what, got, e, want)
	}
}

// expect checks a matrix without an error.
func expect(t *testing.T, what string, got [][]api.Int, e api.Errno, want values) {
	t.Helper()
	same := slices.EqualFunc(got, want, func(a []api.Int, b []*big.Int) bool {
		return slices.EqualFunc(a, b, isInt)
	})
	if e != api.OK || !same {
		t.Errorf("%s: %v, %d, want %v", what, got, e, want)
	}
}

// isZero reports whether a is the zero value.
func isZero(a api.Int) bool {
	return !a.Neg && len(a.Mag) == 0
}

// expectError checks that there is an error, and no matrix.
func expectError(t *testing.T, what string, got [][]api.Int, e, want api.Errno) {
	t.Helper()
	if e != want || len(got) > 0 {
		t.Errorf("%s: %v, %d, want the error %d", what, got, e, want)
	}
}

// must returns the value of a call that has one.
func must[T any](value T, ok bool) T {
	if !ok {
		panic("there is no value")
	}
	return value
}

// right returns the value of a call without an error.
func right[T any](value T, e api.Errno) T {
	if e != api.OK {
		panic(e)
	}
	return value
}

// times returns the product of two matrices by package big.
func times(a, b values) values {
	out := make(values, len(a))
	for i := range a {
		for j := range b[0] {
			total := new(big.Int)
			for k := range b {
				total.Add(total, new(big.Int).Mul(a[i][k], b[k][j]))
			}
			out[i] = append(out[i], total)
		}
	}
	return out
}

// scaled returns a matrix times c by package big.
func scaled(m values, c *big.Int) values {
	var out values
	for _, row := range m {
		var numbers []*big.Int
		for _, v := range row {
			numbers = append(numbers, new(big.Int).Mul(c, v))
		}
		out = append(out, numbers)
	}
	return out
}

// turned returns the transposed matrix.
func turned(m values) values {
	out := make(values, len(m[0]))
	for j := range out {
		for i := range m {
			out[j] = append(out[j], m[i][j])
		}
	}
	return out
}

// without returns m without a row and a column.
func without(m values, row, col int) values {
	var out values
	for i, numbers := range m {
		if i != row {
			out = append(out, slices.Delete(slices.Clone(numbers), col, col+1))
		}
	}
	return out
}

// determinant returns the sum over all permutations, which it collects by the sets of the columns of the first rows.
func determinant(m values) *big.Int {
	n := len(m)
	sums := make([]*big.Int, 1<<n)
	sums[0] = big.NewInt(1)
	for set := 1; set < 1<<n; set++ {
		sums[set] = new(big.Int)
		row := bits.OnesCount(uint(set)) - 1
		for j := range n {
			if set>>j&1 == 0 {
				continue
			}
			term := new(big.Int).Mul(m[row][j], sums[set&^(1<<j)])
			// Each column of the set behind j is an inversion.
			if bits.OnesCount(uint(set>>(j+1)))%2 == 1 {
				term.Neg(term)
			}
			sums[set].Add(sums[set], term)
		}
	}
	return sums[1<<n-1]
}

// build returns the matrix with these entries.
func build(rows, cols int, entry func(i, j int) api.Int) [][]api.Int {
	m := make([][]api.Int, rows)
	for i := range m {
		for j := range cols {
			m[i] = append(m[i], entry(i, j))
		}
	}
	return m
}

// smallMatrix returns a matrix with entries from -limit to limit.
func smallMatrix(random *rand.Rand, rows, cols, limit int) [][]api.Int {
	return build(rows, cols, func(i, j int) api.Int { return small(int64(random.IntN(2*limit+1) - limit)) })
}

// longMatrix returns a matrix with entries of up to size limbs, which may not be canonical.
func longMatrix(random *rand.Rand, rows, cols, size int) [][]api.Int {
	return build(rows, cols, func(i, j int) api.Int {
		a := api.Int{Neg: random.IntN(2) == 0, Mag: make([]uint32, random.IntN(size+1))}
		for k := range a.Mag {
			a.Mag[k] = random.Uint32() >> random.IntN(33)
		}
		return a
	})
}

// squares returns the matrix t't, plus 1 on the diagonal, which is positive definite for every t. Its entries are not canonical.
func squares(t [][]api.Int) [][]api.Int {
	product := times(turned(valuesOf(t)), valuesOf(t))
	return build(len(product), len(product), func(i, j int) api.Int {
		if i == j {
			return intOf(new(big.Int).Add(product[i][j], big.NewInt(1)))
		}
		return intOf(product[i][j])
	})
}

// triangular returns a matrix with zeros above the diagonal, on which 1 and -1 stand.
func triangular(random *rand.Rand, n int) [][]api.Int {
	return build(n, n, func(i, j int) api.Int {
		if i == j {
			return small(int64(1 - 2*random.IntN(2)))
		}
		if i < j {
			return small(0)
		}
		return small(int64(random.IntN(5) - 2))
	})
}

// unimodular returns a unimodular matrix.
func unimodular(random *rand.Rand, n int) [][]api.Int {
	return must(matrix.Mul(triangular(random, n), must(matrix.Transpose(triangular(random, n)))))
}

// e8 is the Gram matrix of the root lattice E8.
func e8() ints {
	l := zeros(8, 8)
	for i := range l {
		l[i][i] = 2
	}
	for _, edge := range [][2]int{{0, 1}, {1, 2}, {2, 3}, {3, 4}, {4, 5}, {5, 6}, {2, 7}} {
		l[edge[0]][edge[1]], l[edge[1]][edge[0]] = -1, -1
	}
	return l
}

// forms returns Gram matrices of all dimensions.
func forms() [][][]api.Int {
	var out [][][]api.Int
	for _, l := range []ints{
		{{1}}, {{2}}, {{7}}, {{1 << 32}}, {{1<<63 - 1}},
		hexagon, {{1, 0}, {0, 1}}, {{2, -1}, {-1, 2}}, {{1, 5}, {5, 26}}, {{4, 2}, {2, 6}}, {{1, 0}, {0, 1 << 40}}, {{3, 0}, {0, 9}}, {{2, 0}, {0, 3}},
		{{4, 2, 0}, {2, 6, -1}, {0, -1, 3}}, {{2, 1, 1}, {1, 2, 1}, {1, 1, 2}}, {{6, 3, 3}, {3, 6, 3}, {3, 3, 6}}, {{4, 2, 2}, {2, 6, 4}, {2, 4, 7}},
		{{2, 0, 0, 1}, {0, 2, 0, 1}, {0, 0, 2, 1}, {1, 1, 1, 2}},
		unit(8), e8(),
	} {
		out = append(out, of(l))
	}
	random := rand.New(rand.NewPCG(1, 2))
	for n := 1; n <= api.MaxDim; n++ {
		other := 1 + random.IntN(api.MaxDim)
		out = append(out,
			squares(smallMatrix(random, n, n, 1)), squares(smallMatrix(random, n, n, 5)), squares(smallMatrix(random, other, n, 3)), squares(longMatrix(random, n, n, 3)), squares(longMatrix(random, other, n, 5)),
			right(gram.Transform(of(unit(n)), unimodular(random, n))), right(gram.Scale(squares(smallMatrix(random, n, n, 2)), small(int64(2+random.IntN(9))))))
	}
	return append(out, right(gram.Transform(of(e8()), unimodular(random, 8))))
}

// wrong is a matrix that is no Gram matrix, with its error.
type wrong struct {
	g [][]api.Int
	e api.Errno
}

// wrongs returns matrices with all errors. Some of them have further errors behind the first one.
func wrongs() []wrong {
	var out []wrong
	add := func(e api.Errno, all ...ints) {
		for _, l := range all {
			out = append(out, wrong{of(l), e})
		}
	}
	add(api.ErrShape,
		nil, ints{}, ints{{}}, ints{nil}, ints{{}, {}}, ints{{1, 0}}, ints{{1}, {0}}, ints{{1, 0}, {0}}, ints{{1}, {0, 3}}, ints{{1, 0}, {}}, ints{{}, {1, 0}}, ints{{1}, nil}, ints{nil, {1}},
		ints{{1, 0, 0}, {0, 1, 0}}, ints{{1, 0}, {0, 1}, {0, 0}}, ints{{1, 0, 0}, {0, 1, 0}, {0, 0, 1, 0}}, ints{{1, 2, 3}, {0, 1}}, ints{{0, 1}},
		unit(9), unit(16), unit(17), zeros(9, 9), zeros(8, 9), zeros(9, 8), zeros(1000, 0), zeros(8, 1000), zeros(1000, 8), append(unit(8), make([]int64, 8)), append(unit(8)[:7], make([]int64, 7)))
	add(api.ErrSymmetric,
		ints{{2, 1}, {0, 2}}, ints{{2, 0}, {1, 2}}, ints{{2, 1}, {-1, 2}}, ints{{-2, 1}, {0, -2}}, ints{{0, 0}, {1, 0}}, ints{{2, 1}, {1 + 1<<32, 2}}, ints{{1 << 40, 1}, {1 << 32, 1 << 40}},
		ints{{3, 1, 0}, {1, 3, 1}, {1, 1, 3}}, ints{{3, 1, 0}, {1, 3, 1}, {0, 2, 3}}, ints{{3, 0, 0}, {1, 3, 0}, {0, 0, 3}})
	add(api.ErrDefinite,
		ints{{0}}, ints{{-1}}, ints{{-5}}, ints{{-1 << 63}}, zeros(8, 8), ints{{1, 1}, {1, 1}}, ints{{1, 2}, {2, 1}}, ints{{1, -2}, {-2, 3}}, ints{{0, 0}, {0, 1}}, ints{{1, 0}, {0, 0}}, ints{{0, 1}, {1, 2}}, ints{{-2, 1}, {1, -2}}, ints{{1, 0}, {0, -1}}, ints{{-1, 0}, {0, 1}}, ints{{1 << 40, 1 << 41}, {1 << 41, 1 << 42}},
		ints{{1, 0, 0}, {0, 1, 0}, {0, 0, 0}}, ints{{2, -1, -1}, {-1, 2, -1}, {-1, -1, 2}}, ints{{-2, 0, 0}, {0, -2, 0}, {0, 0, 2}}, ints{{0, 1, 0}, {1, 0, 0}, {0, 0, -1}})
	for n := 2; n <= api.MaxDim; n++ {
		last, skew := unit(n), unit(n)
		last[n-1][n-1] = -1
		skew[n-1][n-2] = 1
		add(api.ErrDefinite, last)
		add(api.ErrSymmetric, skew)
	}
	return out
}

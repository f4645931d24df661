package lll_test

import (
	"math/big"
	"math/bits"
	"math/rand/v2"
	"slices"

	"quadform/api"
	"quadform/integer"
)

type ints = [][]int64

// values is a matrix of numbers of package big.
type values = [][]*big.Int

// small returns an Int that denotes n and is not canonical.
func small(n int64) api.Int {
	a := integer.Small(n)
	return api.Int{Neg: a.Neg || n == 0, Mag: append(slices.Clone(a.Mag), 0)}
}

// of returns a matrix whose entries are not canonical.
func of(l ints) [][]api.Int {
	var m [][]api.Int
	for _, row := range l {
		var entries []api.Int
		for _, n := range row {
			entries = append(entries, small(n))
		}
		m = append(m, entries)
	}
	return m
}

// zeros returns the matrix 0 of this shape.
func zeros(rows, cols int) ints {
	l := make(ints, rows)
	for i := range l {
		l[i] = make([]int64, cols)
	}
	return l
}

// diagonal returns the matrix with these entries on the diagonal.
func diagonal(entries ...int64) ints {
	l := zeros(len(entries), len(entries))
	for i, n := range entries {
		l[i][i] = n
	}
	return l
}

// unit returns the identity matrix.
func unit(n int) ints {
	return diagonal(slices.Repeat([]int64{1}, n)...)
}

// multiple returns c times l.
func multiple(c int64, l ints) ints {
	out := zeros(len(l), len(l))
	for i, row := range l {
		for j, n := range row {
			out[i][j] = c * n
		}
	}
	return out
}

// sum returns the orthogonal sum.
func sum(a, b ints) ints {
	out := zeros(len(a)+len(b), len(a)+len(b))
	for i, row := range a {
		copy(out[i], row)
	}
	for i, row := range b {
		copy(out[len(a)+i][len(a):], row)
	}
	return out
}

// roots returns the root lattice whose Dynkin diagram is a chain, with a last point that hangs at the point branch.
func roots(n, branch int) ints {
	l := multiple(2, unit(n))
	for i := 1; i < n; i++ {
		j := i - 1
		if i == n-1 {
			j = branch
		}
		l[i][j], l[j][i] = -1, -1
	}
	return l
}

// value returns the number that a denotes.
func value(a api.Int) *big.Int {
	v := new(big.Int)
	for _, limb := range slices.Backward(a.Mag) {
		v.Add(v.Lsh(v, 32), big.NewInt(int64(limb)))
	}
	if a.Neg {
		v.Neg(v)
	}
	return v
}

// valuesOf returns the numbers that the entries of a matrix denote.
func valuesOf(m [][]api.Int) values {
	var out values
	for _, row := range m {
		var numbers []*big.Int
		for _, a := range row {
			numbers = append(numbers, value(a))
		}
		out = append(out, numbers)
	}
	return out
}

// valuesOfInts returns the numbers of l.
func valuesOfInts(l ints) values {
	var out values
	for _, row := range l {
		var numbers []*big.Int
		for _, n := range row {
			numbers = append(numbers, big.NewInt(n))
		}
		out = append(out, numbers)
	}
	return out
}

// intsOf returns a matrix of Ints that are not canonical.
func intsOf(m values) [][]api.Int {
	var out [][]api.Int
	for _, row := range m {
		var entries []api.Int
		for _, v := range row {
			entries = append(entries, intOf(v))
		}
		out = append(out, entries)
	}
	return out
}

// intOf returns an Int that denotes v and is not canonical.
func intOf(v *big.Int) api.Int {
	a := api.Int{Neg: v.Sign() <= 0}
	for rest := new(big.Int).Abs(v); rest.Sign() > 0; rest.Rsh(rest, 32) {
		a.Mag = append(a.Mag, uint32(rest.Uint64()))
	}
	a.Mag = append(a.Mag, 0)
	return a
}

// isCanonical reports whether a is canonical.
func isCanonical(a api.Int) bool {
	if len(a.Mag) == 0 {
		return !a.Neg
	}
	return a.Mag[len(a.Mag)-1] != 0
}

// same reports whether two matrices have the same shape and the same entries.
func same(a, b values) bool {
	return slices.EqualFunc(a, b, func(x, y []*big.Int) bool {
		return slices.EqualFunc(x, y, func(v, w *big.Int) bool { return v.Cmp(w) == 0 })
	})
}

// times returns the product of two matrices.
func times(a, b values) values {
	out := make(values, len(a))
	for i := range a {
		for j := range b[0] {
			total := new(big.Int)
			for k := range b {
				total.Add(total, new(big.Int).Mul(a[i][k], b[k][j]))
			}
			out[i] = append(out[i], total)
		}
	}
	return out
}

// turned returns the transposed matrix.
func turned(m values) values {
	out := make(values, len(m[0]))
	for j := range out {
		for i := range m {
			out[j] = append(out[j], m[i][j])
		}
	}
	return out
}

// changed returns t'gt.
func changed(g, t values) values {
	return times(turned(t), times(g, t))
}

// determinant returns the sum over all permutations, which it collects by the sets of the columns of the first rows.
func determinant(m values) *big.Int {
	n := len(m)
	sums := make([]*big.Int, 1<<n)
	sums[0] = big.NewInt(1)
	for set := 1; set < 1<<n; set++ {
		sums[set] = new(big.Int)
		row := bits.OnesCount(uint(set)) - 1
		for j := range n {
			if set>>j&1 == 0 {
				continue
			}
			term := new(big.Int).Mul(m[row][j], sums[set&^(1<<j)])
			// Each column of the set behind j is an inversion.
			if bits.OnesCount(uint(set>>(j+1)))%2 == 1 {
				term.Neg(term)
			}
			sums[set].Add(sums[set], term)
		}
	}
	return sums[1<<n-1]
}

// minorOf returns the determinant of the first size columns of the rows 0, .., size-2 and last.
func minorOf(m values, size, last int) *big.Int {
	var part values
	for i := range size - 1 {
		part = append(part, m[i][:size])
	}
	return determinant(append(part, m[last][:size]))
}

// reducedByDefinition reports whether h is a reduced form: the four conditions in the words of the chapter.
func reducedByDefinition(h ints) bool {
	n := len(h)
	if n < 1 || n > api.MaxDim || slices.ContainsFunc(h, func(row []int64) bool { return len(row) != n }) {
		return false
	}
	m := valuesOfInts(h)
	if !same(m, turned(m)) {
		return false
	}
	d := []*big.Int{big.NewInt(1)}
	for k := range n {
		d = append(d, minorOf(m, k+1, k))
		if d[k+1].Sign() <= 0 {
			return false
		}
	}
	if d[n].Cmp(big.NewInt(api.MaxDet)) > 0 {
		return false
	}
	for i := range n {
		for j := range i {
			double := new(big.Int).Lsh(minorOf(m, j+1, i), 1)
			if double.CmpAbs(d[j+1]) > 0 {
				return false
			}
		}
	}
	for i := 1; i < n; i++ {
		lambda := minorOf(m, i, i)
		left := new(big.Int).Mul(d[i-1], d[i+1])
		left.Add(left, lambda.Mul(lambda, lambda))
		right := new(big.Int).Mul(d[i], d[i])
		if left.Lsh(left, 2).Cmp(right.Mul(right, big.NewInt(3))) < 0 {
			return false
		}
	}
	return true
}

// longNumber returns a number of at most this many decimal digits.
func longNumber(random *rand.Rand, digits int) *big.Int {
	v := new(big.Int)
	for range random.IntN(digits + 1) {
		v.Add(v.Mul(v, big.NewInt(10)), big.NewInt(random.Int64N(10)))
	}
	if random.IntN(2) == 0 {
		v.Neg(v)
	}
	return v
}

// unimodular returns the product of two triangular matrices with entries of at most this many decimal digits.
func unimodular(random *rand.Rand, n, digits int) values {
	lower, upper := valuesOfInts(unit(n)), valuesOfInts(unit(n))
	for i := range n {
		if random.IntN(2) == 0 {
			lower[i][i] = big.NewInt(-1)
		}
		for j := range i {
			lower[i][j], upper[j][i] = longNumber(random, digits), longNumber(random, digits)
		}
	}
	return times(lower, upper)
}

// lattice is a form of a determinant of at most MaxDet, with the least norm of a vector other than 0.
type lattice struct {
	g     ints
	least int64
}

// lattices returns forms of all dimensions.
func lattices() []lattice {
	hexagon := ints{{2, 1}, {1, 2}}
	list := []lattice{
		{ints{{2}}, 2}, {ints{{7}}, 7}, {ints{{9999}}, 9999}, {ints{{10000}}, 10000},
		{hexagon, 2}, {multiple(57, hexagon), 114}, {diagonal(100, 100), 100}, {diagonal(3, 1), 1}, {diagonal(5, 2), 2}, {diagonal(10000, 1), 1}, {ints{{4, 2}, {2, 3}}, 3}, {ints{{5, 2}, {2, 8}}, 5},
		{diagonal(21, 21, 21), 21}, {diagonal(2, 3, 5), 2}, {ints{{2, 1, 1}, {1, 2, 1}, {1, 1, 2}}, 2}, {ints{{3, 1, 1}, {1, 3, 1}, {1, 1, 3}}, 3},
		{diagonal(10, 10, 10, 10), 10}, {diagonal(2, 3, 5, 7), 2}, {multiple(7, roots(4, 1)), 14}, {diagonal(7, 5, 3, 2, 47), 2},
		{roots(6, 2), 2}, {roots(7, 2), 2}, {roots(8, 2), 2}, {multiple(3, roots(8, 2)), 6}, {sum(roots(6, 2), hexagon), 2}, {sum(ints{{2}}, roots(7, 2)), 2}, {sum(roots(4, 1), roots(4, 1)), 2}, {diagonal(3, 3, 3, 3, 3, 3, 3, 3), 3},
	}
	for n := 1; n <= api.MaxDim; n++ {
		last := unit(n)
		last[n-1][n-1] = api.MaxDet
		list = append(list, lattice{unit(n), 1}, lattice{roots(n, max(0, n-2)), 2})
		if n > 1 {
			list = append(list, lattice{last, 1})
		}
		if n >= 4 {
			list = append(list, lattice{roots(n, n-3), 2})
		}
	}
	return list
}

// forms returns the lattices in their own bases and in others, with entries of up to some hundred digits.
func forms() []values {
	random := rand.New(rand.NewPCG(1, 2))
	var list []values
	for _, l := range lattices() {
		g := valuesOfInts(l.g)
		list = append(list, g)
		for _, digits := range []int{1, 2, 20} {
			list = append(list, changed(g, unimodular(random, len(g), digits)))
		}
		twice := times(unimodular(random, len(g), 2), unimodular(random, len(g), 2))
		list = append(list, changed(g, twice))
	}
	return list
}

// wrong is a matrix that Reduce refuses, with its error.
type wrong struct {
	g [][]api.Int
	e api.Errno
}

// wrongs returns matrices with all errors of a Gram matrix. Some of them have further errors behind the first one.
func wrongs() []wrong {
	var out []wrong
	add := func(e api.Errno, list ...ints) {
		for _, l := range list {
			out = append(out, wrong{of(l), e})
		}
	}
	add(api.ErrShape,
		nil, ints{}, ints{{}}, ints{nil, nil}, ints{{1, 0}}, ints{{1}, {0}}, ints{{1, 0}, {0}}, ints{{1}, {0, 1}}, ints{{1, 0}, nil}, ints{{0, 1, 2}, {3, 4, 5}}, ints{{1, 2, 3}, {0, 1}},
		unit(9), unit(16), unit(17), zeros(9, 9), zeros(8, 9), zeros(9, 8), zeros(1000, 0), zeros(1000, 8))
	add(api.ErrSymmetric,
		ints{{2, 1}, {0, 2}}, ints{{2, 1}, {-1, 2}}, ints{{-2, 1}, {0, -2}}, ints{{0, 0}, {1, 0}}, ints{{20000, 1}, {0, 20000}}, ints{{3, 1, 0}, {1, 3, 1}, {1, 1, 3}})
	add(api.ErrDefinite,
		ints{{0}}, ints{{-1}}, ints{{-20000}}, zeros(8, 8), ints{{1, 1}, {1, 1}}, ints{{1, 2}, {2, 1}}, ints{{0, 0}, {0, 1}}, ints{{1, 0}, {0, -1}}, ints{{-1, 0}, {0, 1}}, diagonal(-200, -200), diagonal(-200, -200, 1), ints{{2, -1, -1}, {-1, 2, -1}, {-1, -1, 2}}, ints{{0, 1, 0}, {1, 0, 0}, {0, 0, -1}})
	for n := 2; n <= api.MaxDim; n++ {
		last, skew := unit(n), unit(n)
		last[n-1][n-1], skew[n-1][n-2] = 0, 1
		add(api.ErrDefinite, last)
		add(api.ErrSymmetric, skew)
	}
	return out
}

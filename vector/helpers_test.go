package vector_test

import (
	"math/big"
	"math/bits"
	"math/rand/v2"
	"slices"

	"quadform/api"
	"quadform/lll"
	"quadform/matrix"
)

type ints = [][]int64

// values is a matrix of numbers of package big.
type values = [][]*big.Int

const top = int64(api.MaxCoord)

// zeros returns the matrix 0 of this shape.
func zeros(rows, cols int) ints {
	l := make(ints, rows)
	for i := range l {
		l[i] = make([]int64, cols)
	}
	return l
}

// diagonal returns the matrix with these entries on the diagonal.
func diagonal(entries ...int64) ints {
	l := zeros(len(entries), len(entries))
	for i, n := range entries {
		l[i][i] = n
	}
	return l
}

// unit returns the identity matrix.
func unit(n int) ints {
	return diagonal(slices.Repeat([]int64{1}, n)...)
}

// one returns the list of n coordinates that are 0, except for this one.
func one(n, place int, coordinate int64) []int64 {
	x := make([]int64, n)
	x[place] = coordinate
	return x
}

// negative returns -x.
func negative(x []int64) []int64 {
	out := slices.Clone(x)
	for i := range out {
		out[i] = -out[i]
	}
	return out
}

// multiple returns c times l.
func multiple(c int64, l ints) ints {
	out := zeros(len(l), len(l))
	for i, row := range l {
		for j, n := range row {
			out[i][j] = c * n
		}
	}
	return out
}

// roots returns a reduced form of the root lattice whose Dynkin diagram is a chain, with a last point that hangs at the point branch.
func roots(n, branch int) ints {
	l := multiple(2, unit(n))
	for i := 1; i < n; i++ {
		j := i - 1
		if i == n-1 {
			j = branch
		}
		l[i][j], l[j][i] = -1, -1
	}
	return reduced(l)
}

// reduced returns a reduced form of the lattice.
func reduced(l ints) ints {
	g, _ := matrix.FromInts(l)
	h, _, _ := lll.Reduce(g)
	return h
}

// hexagon returns the form of the hexagonal lattice.
func hexagon() ints {
	return ints{{2, 1}, {1, 2}}
}

// forms returns reduced forms of all dimensions.
func forms() []ints {
	list := []ints{
		{{2}}, {{7}}, {{9999}}, {{10000}},
		hexagon(), {{2, -1}, {-1, 2}}, diagonal(100, 100), diagonal(1, 3), diagonal(1, 10000), {{3, 1}, {1, 3}}, {{2, 1}, {1, 5000}}, {{4, 2}, {2, 3}}, {{114, 57}, {57, 114}},
		diagonal(21, 21, 21), {{2, 1, 1}, {1, 2, 1}, {1, 1, 2}}, {{3, 1, -1}, {1, 3, 1}, {-1, 1, 3}},
		diagonal(10, 10, 10, 10), diagonal(2, 3, 5, 7), diagonal(2, 3, 5, 7, 47), roots(6, 2), roots(7, 2), roots(8, 2), diagonal(3, 3, 3, 3, 3, 3, 3, 3), reduced(ints{{20, 11, 3}, {11, 20, 5}, {3, 5, 20}}),
	}
	for n := 1; n <= api.MaxDim; n++ {
		list = append(list, unit(n), roots(n, max(0, n-2)), diagonal(append(slices.Repeat([]int64{1}, n-1), api.MaxDet)...))
		if n >= 4 {
			list = append(list, roots(n, n-3))
		}
	}
	return list
}

// notReduced returns matrices that are no reduced forms.
func notReduced() []ints {
	list := []ints{nil, {}, {{}}, {nil}, {{0}}, {{-1}}, {{10001}}, {{1, 1}, {1, 2}}, diagonal(5, 1), diagonal(101, 100), {{1, 0}}, {{1}, {0}}, {{1}, {0, 1}}, {{1, 0}, {0}}, {{1, 0}, nil}, {{1, 0}, {1, 1}}, {{2, 1}, {0, 2}}, {{2, 2}, {2, 2}}, {{1, 0}, {0, -1}}, diagonal(1, 0), diagonal(0, 1), diagonal(1, 10001), {{1, 0, 0}, {0, 1, 0}}, {{1, 0}, {0, 1}, {0, 0}}, unit(9), unit(9)[:8], zeros(8, 8)}
	for n := 2; n <= api.MaxDim; n++ {
		wrong := unit(n)
		wrong[n-1][0] = 1
		list = append(list, wrong, append(unit(n)[:n-1], one(n, n-1, 1)[:n-1]))
	}
	return list
}

// coordinate returns a coordinate of a vector: often a short one or one of the greatest.
func coordinate(random *rand.Rand) int64 {
	n := random.Int64N(int64(2) << random.IntN(40))
	switch random.IntN(8) {
	case 0:
		n = top - n%2
	case 1:
		n = 1 << random.IntN(41)
	}
	if random.IntN(2) == 0 {
		return -n
	}
	return n
}

// vectorOf returns a vector with n coordinates.
func vectorOf(random *rand.Rand, n int) []int64 {
	x := make([]int64, n)
	for i := range x {
		if random.IntN(4) > 0 {
			x[i] = coordinate(random)
		}
	}
	return x
}

// shortVector returns a vector whose coordinates have absolute values of at most size.
func shortVector(random *rand.Rand, n int, size int64) []int64 {
	x := make([]int64, n)
	for i := range x {
		x[i] = random.Int64N(2*size+1) - size
	}
	return x
}

// values of l, as numbers of package big.
func valuesOf(l ints) values {
	var out values
	for _, row := range l {
		var numbers []*big.Int
		for _, n := range row {
			numbers = append(numbers, big.NewInt(n))
		}
		out = append(out, numbers)
	}
	return out
}

// product returns x'hy.
func product(h ints, x, y []int64) *big.Int {
	total := new(big.Int)
	for i, row := range h {
		for j, n := range row {
			term := new(big.Int).Mul(big.NewInt(n), big.NewInt(y[j]))
			total.Add(total, term.Mul(term, big.NewInt(x[i])))
		}
	}
	return total
}

// isLimited reports whether v is from -MaxNorm to MaxNorm.
func isLimited(v *big.Int) bool {
	return v.CmpAbs(big.NewInt(api.MaxNorm)) <= 0
}

// isVectorOf reports whether x is a vector of a form with n rows.
func isVectorOf(n int, x []int64) bool {
	return len(x) == n && !slices.ContainsFunc(x, func(c int64) bool { return c < -top || c > top })
}

// sameLists reports whether two matrices or lists of vectors are equal.
func sameLists(a, b ints) bool {
	return slices.EqualFunc(a, b, func(x, y []int64) bool { return slices.Equal(x, y) })
}

// turned returns the transposed matrix of a square matrix.
func turned(l ints) ints {
	out := zeros(len(l), len(l))
	for i, row := range l {
		for j, n := range row {
			out[j][i] = n
		}
	}
	return out
}

// square reports whether l has as many rows as each row has entries.
func square(l ints) bool {
	return !slices.ContainsFunc(l, func(row []int64) bool { return len(row) != len(l) })
}

// determinant returns the sum over all permutations, which it collects by the sets of the columns of the first rows.
func determinant(m values) *big.Int {
	n := len(m)
	sums := make([]*big.Int, 1<<n)
	sums[0] = big.NewInt(1)
	for set := 1; set < 1<<n; set++ {
		sums[set] = new(big.Int)
		row := bits.OnesCount(uint(set)) - 1
		for j := range n {
			if set>>j&1 == 0 {
				continue
			}
			term := new(big.Int).Mul(m[row][j], sums[set&^(1<<j)])
			// Each column of the set behind j is an inversion.
			if bits.OnesCount(uint(set>>(j+1)))%2 == 1 {
				term.Neg(term)
			}
			sums[set].Add(sums[set], term)
		}
	}
	return sums[1<<n-1]
}

// isUnimodular reports whether t has determinant 1 or -1.
func isUnimodular(t ints) bool {
	return len(t) > 0 && len(t) <= api.MaxDim && square(t) && determinant(valuesOf(t)).CmpAbs(big.NewInt(1)) == 0
}

// unimodular returns the product of two triangular matrices whose entries have absolute values of at most size.
func unimodular(random *rand.Rand, n int, size int64) ints {
	lower, upper := unit(n), unit(n)
	for i := range n {
		if random.IntN(2) == 0 {
			lower[i][i] = -1
		}
		copy(lower[i][:i], shortVector(random, i, size))
		copy(upper[i][i+1:], shortVector(random, n-i-1, size))
	}
	out := zeros(n, n)
	for i := range n {
		for j := range n {
			for k := range n {
				out[i][j] += lower[i][k] * upper[k][j]
			}
		}
	}
	return out
}

package enumerate_test

import (
	"cmp"
	"math"
	"math/big"
	"slices"

	"quadform/api"
	"quadform/lll"
	"quadform/matrix"
)

type ints = [][]int64

// zeros returns the matrix 0 of this shape.
func zeros(rows, cols int) ints {
	l := make(ints, rows)
	for i := range l {
		l[i] = make([]int64, cols)
	}
	return l
}

// diagonal returns the matrix with these entries on the diagonal.
func diagonal(entries ...int64) ints {
	l := zeros(len(entries), len(entries))
	for i, n := range entries {
		l[i][i] = n
	}
	return l
}

// unit returns the identity matrix.
func unit(n int) ints {
	return diagonal(slices.Repeat([]int64{1}, n)...)
}

// roots returns a reduced form of the root lattice whose Dynkin diagram is a chain, with a last point that hangs at the point branch.
func roots(n, branch int) ints {
	l := diagonal(slices.Repeat([]int64{2}, n)...)
	for i := 1; i < n; i++ {
		j := i - 1
		if i == n-1 {
			j = branch
		}
		l[i][j], l[j][i] = -1, -1
	}
	return reduced(l)
}

// reduced returns a reduced form of the lattice.
func reduced(l ints) ints {
	g, _ := matrix.FromInts(l)
	h, _, _ := lll.Reduce(g)
	return h
}

// hexagon returns the form of the hexagonal lattice.
func hexagon() ints {
	return ints{{2, 1}, {1, 2}}
}

// steep returns reduced forms whose leading minors or entries are much greater than the determinant allows for short bases.
func steep() []ints {
	return []ints{
		{{4, 2}, {2, 3}}, {{114, 57}, {57, 114}},
		{{24, -12, 12, -12, -12}, {-12, 18, -12, 10, 12}, {12, -12, 15, -5, -6}, {-12, 10, -5, 12, 11}, {-12, 12, -6, 11, 13}},
		{{13, 6, -6, 1, 6, -6}, {6, 10, 0, 4, 0, -6}, {-6, 0, 9, -1, -2, -1}, {1, 4, -1, 6, 0, -2}, {6, 0, -2, 0, 8, -2}, {-6, -6, -1, -2, -2, 8}},
		{{19, 9, 9, 9, -9, 9, 2}, {9, 15, -1, 9, 1, -1, -4}, {9, -1, 13, -1, -5, 4, 1}, {9, 9, -1, 11, -4, 4, -1}, {-9, 1, -5, -4, 10, -7, -3}, {9, -1, 4, 4, -7, 10, 4}, {2, -4, 1, -1, -3, 4, 5}},
		{{21, 10, 10, 5, 10, -10, 10, 8}, {10, 16, 10, 1, 0, -10, 0, 9}, {10, 10, 14, 5, 0, -4, 5, 9}, {5, 1, 5, 7, 0, 1, 5, 1}, {10, 0, 0, 0, 11, -3, 5, 2}, {-10, -10, -4, 1, -3, 11, -2, -5}, {10, 0, 5, 5, 5, -2, 9, 2}, {8, 9, 9, 1, 2, -5, 2, 8}},
		{{24, -12, 12, 12, 12, -12, 12, -12}, {-12, 18, -12, -8, 0, 12, 0, 0}, {12, -12, 15, 10, 0, -12, 6, -5}, {12, -8, 10, 11, 2, -10, 5, -5}, {12, 0, 0, 2, 13, -1, 9, -8}, {-12, 12, -12, -10, -1, 13, -3, 3}, {12, 0, 6, 5, 9, -3, 13, -10}, {-12, 0, -5, -5, -8, 3, -10, 11}},
	}
}

// forms returns reduced forms of all dimensions.
func forms() []ints {
	list := append(steep(), ints{{2}}, ints{{7}}, ints{{9999}}, ints{{10000}},
		hexagon(), ints{{2, -1}, {-1, 2}}, diagonal(100, 100), diagonal(1, 3), ints{{3, 1}, {1, 3}}, ints{{2, 1}, {1, 5000}},
		diagonal(21, 21, 21), ints{{2, 1, 1}, {1, 2, 1}, {1, 1, 2}}, ints{{3, 1, -1}, {1, 3, 1}, {-1, 1, 3}}, ints{{2, 0, 1}, {0, 2, 1}, {1, 1, 2}},
		diagonal(10, 10, 10, 10), diagonal(2, 3, 5, 7), diagonal(2, 3, 5, 7, 47), roots(6, 2), roots(7, 2), roots(8, 2), reduced(ints{{20, 11, 3}, {11, 20, 5}, {3, 5, 20}}))
	for n := 1; n <= api.MaxDim; n++ {
		list = append(list, unit(n), roots(n, max(0, n-2)), diagonal(append(slices.Repeat([]int64{1}, n-1), api.MaxDet)...))
		if n >= 4 {
			list = append(list, roots(n, n-3))
		}
	}
	return list
}

// notReduced returns matrices that are no reduced forms.
func notReduced() []ints {
	list := []ints{nil, {}, {{}}, {nil}, {{0}}, {{-1}}, {{10001}}, {{math.MinInt64}}, {{1, 1}, {1, 2}}, diagonal(5, 1), diagonal(101, 100), {{1, 0}}, {{1}, {0}}, {{1}, {0, 1}}, {{1, 0}, {0}}, {{1, 0}, nil}, {{1, 0}, {1, 1}}, {{2, 1}, {0, 2}}, {{2, 2}, {2, 2}}, {{1, 0}, {0, -1}}, diagonal(1, 0), diagonal(0, 1), diagonal(1, 10001), {{1, 0, 0}, {0, 1, 0}}, {{1, 0}, {0, 1}, {0, 0}}, unit(9), unit(16), unit(9)[:8], zeros(8, 8), zeros(1000, 0)}
	for n := 2; n <= api.MaxDim; n++ {
		wrong := unit(n)
		wrong[n-1][0] = 1
		short := unit(n)
		short[n-1] = short[n-1][:n-1]
		list = append(list, wrong, short)
	}
	return list
}

// with returns the tail with a coordinate ahead of it.
func with(x int64, tail []int64) []int64 {
	return append([]int64{x}, tail...)
}

func whole(n int64) *big.Rat {
	return new(big.Rat).SetInt64(n)
}

// complements are the Schur complements of a form: element k belongs to the tails that begin with coordinate k.
type complements [][][]*big.Rat

// complementsOf eliminates one coordinate after the other, by fractions.
func complementsOf(h ints) complements {
	var first [][]*big.Rat
	for _, row := range h {
		var numbers []*big.Rat
		for _, n := range row {
			numbers = append(numbers, whole(n))
		}
		first = append(first, numbers)
	}
	c := complements{first}
	for k := range len(h) - 1 {
		var next [][]*big.Rat
		for _, row := range c[k][1:] {
			factor := new(big.Rat).Quo(row[0], c[k][0][0])
			var numbers []*big.Rat
			for j, n := range row[1:] {
				term := new(big.Rat).Mul(factor, c[k][0][j+1])
				numbers = append(numbers, term.Sub(n, term))
			}
			next = append(next, numbers)
		}
		c = append(c, next)
	}
	return c
}

// norm returns the partial norm of a tail.
func (c complements) norm(tail []int64) *big.Rat {
	total := new(big.Rat)
	if len(tail) == 0 {
		return total
	}
	for i, row := range c[len(c)-len(tail)] {
		for j, n := range row {
			term := new(big.Rat).Mul(n, whole(tail[j]))
			total.Add(total, term.Mul(term, whole(tail[i])))
		}
	}
	return total
}

// within reports whether the partial norm of a tail is at most bound.
func (c complements) within(bound int64, tail []int64) bool {
	return c.norm(tail).Cmp(whole(bound)) <= 0
}

// least returns the number ahead of the tail with which the partial norm is the least one.
func (c complements) least(tail []int64) *big.Rat {
	row := c[len(c)-len(tail)-1][0]
	total := new(big.Rat)
	for j, n := range row[1:] {
		total.Sub(total, new(big.Rat).Mul(n, whole(tail[j])))
	}
	return total.Quo(total, row[0])
}

// values returns the integers ahead of the tail with which the partial norm is at most bound, by trying the neighbours of the least one.
func (c complements) values(bound int64, tail []int64) []int64 {
	v := c.least(tail)
	quotient, _ := new(big.Int).DivMod(v.Num(), v.Denom(), new(big.Int))
	floor := quotient.Int64()
	var list []int64
	for x := floor; c.within(bound, with(x, tail)); x-- {
		list = append(list, x)
	}
	slices.Reverse(list)
	for x := floor + 1; c.within(bound, with(x, tail)); x++ {
		list = append(list, x)
	}
	return list
}

// walk calls f for all tails with a partial norm of at most bound that end with this one and are longer.
func (c complements) walk(bound int64, tail []int64, f func(tail []int64)) {
	if len(tail) == len(c) {
		return
	}
	for _, x := range c.values(bound, tail) {
		longer := with(x, tail)
		f(longer)
		c.walk(bound, longer, f)
	}
}

// normOf returns x'hx, for numbers that are not great.
func normOf(h ints, x []int64) int64 {
	sum := int64(0)
	for i, row := range h {
		for j, n := range row {
			sum += x[i] * n * x[j]
		}
	}
	return sum
}

// inOrder compares vectors by their norms, and then by their coordinates from the first one on.
func inOrder(h ints) func(x, y []int64) int {
	return func(x, y []int64) int {
		if order := cmp.Compare(normOf(h, x), normOf(h, y)); order != 0 {
			return order
		}
		for i := range x {
			if order := cmp.Compare(x[i], y[i]); order != 0 {
				return order
			}
		}
		return 0
	}
}

// isFirst reports whether the first nonzero coordinate is positive.
func isFirst(x []int64) bool {
	for _, n := range x {
		if n != 0 {
			return n > 0
		}
	}
	return false
}

// expected returns the list of vectors with a norm of at most bound and the number of steps, by fractions.
func expected(h ints, bound int64) (ints, int) {
	var list ints
	steps := 0
	complementsOf(h).walk(bound, nil, func(tail []int64) {
		steps++
		if len(tail) == len(h) && isFirst(tail) {
			list = append(list, tail)
		}
	})
	slices.SortFunc(list, inOrder(h))
	return list, steps
}

// points returns the numbers of points of norm 0, 1, .., bound of the lattice with this diagonal form.
func points(bound int64, entries []int64) []int {
	counts := make([]int, bound+1)
	counts[0] = 1
	for _, entry := range entries {
		next := slices.Clone(counts)
		for x := int64(1); entry*x*x <= bound; x++ {
			for norm := entry * x * x; norm <= bound; norm++ {
				next[norm] += 2 * counts[norm-entry*x*x]
			}
		}
		counts = next
	}
	return counts
}

// stepsOfDiagonal returns the number of steps for the lattice with this diagonal form, whose tails are vectors of shorter forms.
func stepsOfDiagonal(bound int64, entries []int64) int {
	steps := 0
	for m := range entries {
		steps += total(points(bound, entries[m:]))
	}
	return steps
}

// total returns the sum of the numbers.
func total(numbers []int) int {
	sum := 0
	for _, n := range numbers {
		sum += n
	}
	return sum
}

// same compares two lists of vectors.
func same(a, b ints) bool {
	return slices.EqualFunc(a, b, slices.Equal)
}

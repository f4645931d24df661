package enumerate_test

import (
	"math"
	"slices"
	"testing"

	"quadform/api"
	"quadform/enumerate"
)

// expectVectors checks Vectors and Count with budgets around the number of steps, as far as they are allowed, and with the greatest one.
func expectVectors(t *testing.T, h ints, bound int64, want ints, steps int) {
	t.Helper()
	for _, budget := range []int{0, 1, steps / 2, steps - 1, steps, steps + 1, 2 * steps, api.MaxBudget} {
		budget = min(budget, api.MaxBudget)
		if budget < steps {
			expectNone(t, h, bound, budget, api.ErrBudget)
			continue
		}
		if list, n, e := enumerate.Vectors(h, bound, budget); e != api.OK || n != steps || !same(list, want) {
			t.Errorf("Vectors of %v, %d, %d: %v %d %d, want %v %d", h, bound, budget, list, n, e, want, steps)
		}
		if n, e := enumerate.Count(h, bound, budget); e != api.OK || n != len(want) {
			t.Errorf("Count of %v, %d, %d: %d %d, want %d", h, bound, budget, n, e, len(want))
		}
	}
}

// expectNoVectors checks the error that Vectors returns.
func expectNoVectors(t *testing.T, h ints, bound int64, budget int, want api.Errno) {
	t.Helper()
	if list, steps, e := enumerate.Vectors(h, bound, budget); e != want || len(list) > 0 || steps != 0 {
		t.Errorf("Vectors of %v, %d, %d: %v %d %d, want %d", h, bound, budget, list, steps, e, want)
	}
}

// expectNone checks the error that all functions return.
func expectNone(t *testing.T, h ints, bound int64, budget int, want api.Errno) {
	t.Helper()
	expectNoVectors(t, h, bound, budget, want)
	expectNoShell(t, h, bound, budget, want)
	if n, e := enumerate.Count(h, bound, budget); e != want || n != 0 {
		t.Errorf("Count of %v, %d, %d: %d %d, want %d", h, bound, budget, n, e, want)
	}
}

// P11.1, P11.2: forms of all kinds with small bounds.
func TestVectors(t *testing.T) {
	sizes := 0
	for _, h := range forms() {
		for _, bound := range []int64{0, 1, 2, 3, 4, 5, 7, 9, 12, 16, 24, 33, 45, 64, 100} {
			want, steps := expected(h, bound)
			expectVectors(t, h, bound, want, steps)
			if sizes += len(want); steps > 300 {
				break
			}
		}
	}
	if sizes < 5000 {
		t.Errorf("only %d vectors", sizes)
	}
}

// inBox returns all vectors of h with a norm of at most bound and with coordinates from -size to size that belong into a list of vectors.
func inBox(h ints, bound, size int64) ints {
	list := ints{{}}
	for range h {
		var longer ints
		for _, x := range list {
			for next := -size; next <= size; next++ {
				longer = append(longer, append(slices.Clone(x), next))
			}
		}
		list = longer
	}
	list = slices.DeleteFunc(list, func(x []int64) bool { return !isFirst(x) || normOf(h, x) > bound })
	slices.SortFunc(list, inOrder(h))
	return list
}

// P11.1: all vectors in a box that is great enough, as the square of each coordinate is at most the product of the bound and a diagonal entry of the inverse matrix.
func TestVectorsInBox(t *testing.T) {
	for _, c := range []struct {
		h    ints
		size int64 // for a bound of 12
	}{
		{ints{{1}}, 3}, {ints{{2}}, 2}, {ints{{3}}, 2}, {ints{{12}}, 1}, {ints{{13}}, 0}, {unit(2), 3}, {hexagon(), 2}, {ints{{2, -1}, {-1, 2}}, 2}, {ints{{3, 1}, {1, 3}}, 2}, {diagonal(2, 5), 2}, {ints{{2, 1}, {1, 7}}, 2}, {ints{{4, 2}, {2, 3}}, 2},
		{unit(3), 3}, {roots(3, 1), 3}, {ints{{2, 1, 1}, {1, 2, 1}, {1, 1, 2}}, 3}, {ints{{3, 1, -1}, {1, 3, 1}, {-1, 1, 3}}, 3}, {diagonal(1, 2, 6), 3}, {unit(4), 3},
	} {
		for bound := range int64(13) {
			list, _, e := enumerate.Vectors(c.h, bound, api.MaxBudget)
			if want := inBox(c.h, bound, c.size); e != api.OK || !same(list, want) {
				t.Errorf("Vectors of %v, %d: %v %d, want %v", c.h, bound, list, e, want)
			}
		}
	}
}

// P11.1: the lists themselves.
func TestVectorsByHand(t *testing.T) {
	for _, c := range []struct {
		h     ints
		bound int64
		want  ints
		steps int
	}{
		{hexagon(), 0, nil, 2}, {hexagon(), 1, nil, 2}, {hexagon(), 2, ints{{0, 1}, {1, -1}, {1, 0}}, 10}, {hexagon(), 5, ints{{0, 1}, {1, -1}, {1, 0}}, 10}, {hexagon(), 6, ints{{0, 1}, {1, -1}, {1, 0}, {1, -2}, {1, 1}, {2, -1}}, 18},
		{unit(2), 2, ints{{0, 1}, {1, 0}, {1, -1}, {1, 1}}, 12}, {ints{{2, -1}, {-1, 2}}, 2, ints{{0, 1}, {1, 0}, {1, 1}}, 10}, {ints{{4, 2}, {2, 4}}, 3, nil, 4}, {ints{{4, 2}, {2, 3}}, 3, ints{{0, 1}, {1, -1}}, 8}, {diagonal(1, 5), 5, ints{{1, 0}, {2, 0}, {0, 1}}, 10},
		{ints{{1}}, 0, nil, 1}, {ints{{1}}, 8, ints{{1}, {2}}, 5}, {ints{{1}}, 9, ints{{1}, {2}, {3}}, 7}, {ints{{10000}}, 9999, nil, 1}, {ints{{10000}}, 10000, ints{{1}}, 3}, {diagonal(1, 1, 2), 2, ints{{0, 1, 0}, {1, 0, 0}, {0, 0, 1}, {1, -1, 0}, {1, 1, 0}}, 19},
	} {
		expectVectors(t, c.h, c.bound, c.want, c.steps)
	}
}

// expectList checks that l is a list of vectors with norms of at most bound.
func expectList(t *testing.T, h ints, bound int64, l ints) {
	t.Helper()
	for i, x := range l {
		if len(x) != len(h) || !isFirst(x) || normOf(h, x) > bound {
			t.Errorf("Vectors of %v, %d contains %v", h, bound, x)
		}
		if i > 0 && inOrder(h)(l[i-1], x) >= 0 {
			t.Errorf("Vectors of %v, %d: %v is behind %v", h, bound, x, l[i-1])
		}
	}
}

// theta is a lattice with its known numbers of vectors of norm 0, 2, 4, ..
type theta struct {
	h      ints
	counts []int
}

// thetas returns root lattices.
func thetas() []theta {
	return []theta{
		{hexagon(), []int{1, 6, 0, 6, 6, 0, 0, 12, 0, 6}}, {roots(3, 1), []int{1, 12, 6, 24, 12, 24, 8, 48}}, {roots(4, 1), []int{1, 24, 24, 96, 24, 144}},
		{roots(6, 2), []int{1, 72, 270, 720, 936}}, {roots(7, 2), []int{1, 126, 756, 2072, 4158}}, {roots(8, 2), []int{1, 240, 2160, 6720, 17520, 30240, 60480}},
	}
}

// P11.1, P11.2: root lattices, whose numbers of short vectors are known.
func TestVectorsOfRootLattices(t *testing.T) {
	for _, c := range thetas() {
		for i := range c.counts {
			for bound := int64(2 * i); bound < int64(2*i+2); bound++ {
				want := total(c.counts[1:i+1]) / 2
				if n, e := enumerate.Count(c.h, bound, api.MaxBudget); e != api.OK || n != want {
					t.Errorf("Count of %v, %d: %d %d, want %d", c.h, bound, n, e, want)
				}
				if want > api.MaxVectors {
					expectNoVectors(t, c.h, bound, api.MaxBudget, api.ErrTooLarge)
					continue
				}
				list, _, e := enumerate.Vectors(c.h, bound, api.MaxBudget)
				if e != api.OK || len(list) != want {
					t.Errorf("Vectors of %v, %d: %d vectors, %d, want %d", c.h, bound, len(list), e, want)
				}
				expectList(t, c.h, bound, list)
			}
		}
	}
}

// expectCounted checks Vectors and Count for a list that is known by its length, with budgets next to the number of steps.
func expectCounted(t *testing.T, h ints, bound int64, want, steps int) {
	t.Helper()
	expectNone(t, h, bound, steps-1, api.ErrBudget)
	for _, budget := range []int{steps, api.MaxBudget} {
		if n, e := enumerate.Count(h, bound, budget); e != api.OK || n != want {
			t.Errorf("Count of %v, %d: %d %d, want %d", h, bound, n, e, want)
		}
		if want > api.MaxVectors {
			expectNoVectors(t, h, bound, budget, api.ErrTooLarge)
			continue
		}
		list, n, e := enumerate.Vectors(h, bound, budget)
		if e != api.OK || n != steps || len(list) != want {
			t.Errorf("Vectors of %v, %d: %d vectors, %d %d, want %d %d", h, bound, len(list), n, e, want, steps)
		}
		expectList(t, h, bound, list)
	}
}

// P11.1, P11.2: diagonal forms, also with as many vectors as a list may have, and with one more.
func TestVectorsOfDiagonals(t *testing.T) {
	for _, c := range []struct {
		entries []int64
		bound   int64
		want    int // 0 if it is not given
	}{
		{[]int64{2, 2, 2, 6, 7}, 60, 4096}, {[]int64{1, 1, 4, 4, 6, 7}, 34, 4096}, {[]int64{1, 1, 3, 4, 5, 5, 6}, 24, 4096}, {[]int64{1, 1, 1, 1, 1, 6, 6, 7}, 13, 4096}, {[]int64{2, 2, 2, 2, 4, 5, 5, 5}, 20, 4096},
		{[]int64{1, 2, 4, 7}, 111, 4097}, {[]int64{1, 3, 3, 4, 6}, 55, 4097}, {[]int64{1, 3, 3, 4, 6, 7}, 39, 4097}, {[]int64{1, 1, 1, 1, 3, 6, 6, 7}, 15, 4097},
		{[]int64{1, 10000}, 30, 5}, {[]int64{1, 10000}, 10000, 101}, {[]int64{100, 100}, 10000, 0}, {[]int64{1, 1, 2}, 250, 0}, {slices.Repeat([]int64{1}, 8), 4, 0}, {slices.Repeat([]int64{1}, 8), 6, 0}, {slices.Repeat([]int64{1}, 8), 7, 0}, {[]int64{1, 1, 1, 1, 1, 1, 10000}, 12, 0}, {[]int64{1, 1, 1, 1, 1, 1, 1}, 17, 0},
	} {
		want := (total(points(c.bound, c.entries)) - 1) / 2
		if c.want > 0 && c.want != want {
			t.Errorf("%v, %d has %d vectors", c.entries, c.bound, want)
		}
		expectCounted(t, diagonal(c.entries...), c.bound, want, stepsOfDiagonal(c.bound, c.entries))
	}
}

// P11.1, P11.2: forms of one vector, up to as many steps as the greatest budget allows.
func TestVectorsOfOneCoordinate(t *testing.T) {
	for _, entry := range []int64{1, 2, 9, 9999, 10000} {
		for _, most := range []int64{1, 2, 3, 4095, 4096, 4097, 100000, 499998, 499999} {
			for _, bound := range []int64{entry * most * most, entry*(most+1)*(most+1) - 1} {
				expectCounted(t, ints{{entry}}, bound, int(most), int(2*most+1))
			}
		}
		for _, bound := range []int64{entry * 500000 * 500000, api.MaxNorm} {
			expectNone(t, ints{{entry}}, bound, api.MaxBudget, api.ErrBudget)
		}
	}
}

// P11.1 to P11.3: the greatest bounds, for which there are many more steps than any budget allows.
func TestGreatBounds(t *testing.T) {
	for _, h := range forms() {
		for _, bound := range []int64{api.MaxNorm, api.MaxNorm - 1, 1 << 61, 1 << 55} {
			for _, budget := range []int{0, 1, 100, 10000} {
				expectNone(t, h, bound, budget, api.ErrBudget)
			}
		}
		expectNone(t, h, api.MaxNorm, api.MaxBudget, api.ErrBudget)
	}
}

// P11.1 to P11.3: the first error is the one that is returned.
func TestErrors(t *testing.T) {
	bounds := []int64{0, 1, api.MaxNorm, -1, api.MaxNorm + 1, math.MinInt64, math.MaxInt64}
	budgets := []int{0, 1, api.MaxBudget, -1, api.MaxBudget + 1, math.MinInt, math.MaxInt}
	for _, h := range notReduced() {
		for _, bound := range bounds {
			for _, budget := range budgets {
				expectNone(t, h, bound, budget, api.ErrReduced)
			}
		}
	}
	for _, h := range forms() {
		for i, bound := range bounds {
			for j, budget := range budgets {
				if i > 2 || j > 2 {
					expectNone(t, h, bound, budget, api.ErrArg)
				}
			}
		}
		expectNone(t, h, 0, len(h)-1, api.ErrBudget)
	}
}

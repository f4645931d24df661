package schur_test

import (
	"math"
	"slices"
	"testing"

	"quadform/api"
	"quadform/schur"
)

// total returns the sum of the numbers.
func total(steps []int) int {
	sum := 0
	for _, n := range steps {
		sum += n
	}
	return sum
}

// expectSteps checks Steps with budgets around the number of all steps, as far as they are allowed, and with the greatest one.
func expectSteps(t *testing.T, h ints, bound int64, want []int) {
	t.Helper()
	least := total(want)
	for _, budget := range []int{0, 1, least / 2, least - 1, least, least + 1, 2 * least, api.MaxBudget} {
		budget = min(budget, api.MaxBudget)
		if budget < least {
			expectNoSteps(t, h, bound, budget, api.ErrBudget)
		} else if got, e := schur.Steps(h, bound, budget); e != api.OK || !slices.Equal(got, want) {
			t.Errorf("Steps of %v, %d, %d: %v %d, want %v", h, bound, budget, got, e, want)
		}
	}
}

// expectNoSteps checks the error that Steps returns.
func expectNoSteps(t *testing.T, h ints, bound int64, budget int, want api.Errno) {
	t.Helper()
	if got, e := schur.Steps(h, bound, budget); e != want || len(got) > 0 {
		t.Errorf("Steps of %v, %d, %d: %v %d, want %d", h, bound, budget, got, e, want)
	}
}

// P10.3: forms of all kinds with small bounds.
func TestSteps(t *testing.T) {
	sizes := 0
	for _, h := range forms() {
		c := complementsOf(h)
		for _, bound := range []int64{0, 1, 2, 3, 5, 8, 12, 24} {
			want := make([]int, len(h))
			c.walk(bound, nil, func(tail, values []int64) { want[len(tail)] += len(values) })
			expectSteps(t, h, bound, want)
			sizes += total(want)
			if total(want) > 400 {
				break
			}
		}
	}
	if sizes < 10000 {
		t.Errorf("only %d steps", sizes)
	}
}

// points returns the numbers of points of norm 0, 1, .., bound of the lattice with this diagonal form.
func points(bound int64, entries []int64) []int {
	counts := make([]int, bound+1)
	counts[0] = 1
	for _, entry := range entries {
		next := slices.Clone(counts)
		for x := int64(1); entry*x*x <= bound; x++ {
			for norm := entry * x * x; norm <= bound; norm++ {
				next[norm] += 2 * counts[norm-entry*x*x]
			}
		}
		counts = next
	}
	return counts
}

// P10.3: diagonal forms, of which the tails are vectors of shorter forms.
func TestStepsOfDiagonals(t *testing.T) {
	refused := 0
	for _, entries := range [][]int64{{1}, {3}, {10000}, {1, 1}, {1, 3}, {1, 10000}, {100, 100}, {1, 1, 1}, {2, 3, 5}, {21, 21, 21}, {2, 3, 5, 7}, {10, 10, 10, 10}, {1, 1, 1, 1, 1}, {2, 3, 5, 7, 47}, {1, 1, 2, 2, 2, 3}, {1, 1, 1, 1, 1, 1, 1}, {1, 1, 1, 1, 1, 1, 1, 1}, {3, 3, 3, 3, 3, 3, 3, 3}, {1, 1, 1, 1, 1, 1, 1, 10000}} {
		for _, bound := range []int64{0, 1, 2, 3, 4, 7, 10, 20, 99, 100, 1000, 10000} {
			var want []int
			for m := 1; m <= len(entries); m++ {
				want = append(want, total(points(bound, entries[len(entries)-m:])))
			}
			expectSteps(t, diagonal(entries...), bound, want)
			if total(want) > api.MaxBudget {
				refused++
			}
		}
	}
	if refused < 10 {
		t.Errorf("only %d numbers of steps are beyond the greatest budget", refused)
	}
}

// P10.3, P10.4: the last number counts the vectors of root lattices, whose numbers of short vectors are known.
func TestStepsOfRootLattices(t *testing.T) {
	for _, c := range []struct {
		h      ints
		counts []int // of the vectors of norm 0, 2, 4, ..
	}{
		{hexagon(), []int{1, 6, 0, 6, 6, 0, 0, 12, 0, 6}}, {roots(3, 1), []int{1, 12, 6, 24, 12, 24, 8, 48}}, {roots(4, 1), []int{1, 24, 24, 96, 24, 144}},
		{roots(6, 2), []int{1, 72, 270, 720, 936}}, {roots(7, 2), []int{1, 126, 756, 2072, 4158}}, {roots(8, 2), []int{1, 240, 2160, 6720, 17520, 30240, 60480}},
	} {
		for i := range c.counts {
			for bound := int64(2 * i); bound < int64(2*i+2); bound++ {
				got, e := schur.Steps(c.h, bound, api.MaxBudget)
				if want := total(c.counts[:i+1]); e != api.OK || len(got) != len(c.h) || got[len(got)-1] != want {
					t.Errorf("Steps of %v, %d: %v %d, want %d vectors", c.h, bound, got, e, want)
				}
			}
		}
	}
}

// P10.3: the numbers themselves.
func TestStepsByHand(t *testing.T) {
	for _, c := range []struct {
		h     ints
		bound int64
		want  []int
	}{
		{hexagon(), 0, []int{1, 1}}, {hexagon(), 1, []int{1, 1}}, {hexagon(), 2, []int{3, 7}}, {hexagon(), 5, []int{3, 7}}, {hexagon(), 6, []int{5, 13}}, {hexagon(), 8, []int{5, 19}},
		{ints{{4, 2}, {2, 4}}, 2, []int{1, 1}}, {ints{{4, 2}, {2, 4}}, 3, []int{3, 1}}, {ints{{4, 2}, {2, 4}}, 4, []int{3, 7}}, {ints{{4, 2}, {2, 3}}, 2, []int{3, 1}}, {ints{{4, 2}, {2, 3}}, 3, []int{3, 5}},
		{ints{{1}}, 16, []int{9}}, {ints{{1}}, 15, []int{7}}, {ints{{10000}}, 9999, []int{1}}, {ints{{10000}}, 10000, []int{3}}, {unit(8), 0, []int{1, 1, 1, 1, 1, 1, 1, 1}}, {unit(8), 1, []int{3, 5, 7, 9, 11, 13, 15, 17}},
	} {
		expectSteps(t, c.h, c.bound, c.want)
	}
}

// P10.3: as many steps as the greatest budget allows, and a few more.
func TestStepsAtMaxBudget(t *testing.T) {
	for _, c := range []struct {
		h     ints
		bound int64
		want  []int
	}{
		{ints{{1}}, 499999 * 499999, []int{999999}}, {ints{{1}}, 500000*500000 - 1, []int{999999}}, {ints{{1}}, 500000 * 500000, []int{1000001}}, {ints{{4}}, 1000000*1000000 - 1, []int{999999}}, {ints{{4}}, 1000000 * 1000000, []int{1000001}}, {diagonal(1, 4), 636116, []int{797, 999203}}, {diagonal(1, 3), 550856, []int{857, 999137}}, {diagonal(1, 3), 550857, []int{857, 999145}},
	} {
		expectSteps(t, c.h, c.bound, c.want)
	}
}

// P10.3: the greatest bounds, for which there are many more steps than any budget allows, or many values of the first coordinate.
func TestStepsOfGreatBounds(t *testing.T) {
	for _, h := range forms() {
		for _, bound := range []int64{api.MaxNorm, api.MaxNorm - 1, 1 << 61, 1 << 55} {
			for _, budget := range []int{0, 1, 100, api.MaxBudget} {
				expectNoSteps(t, h, bound, budget, api.ErrBudget)
			}
		}
		for bound := int64(1); bound < 1<<54; bound *= 11 {
			got, e := schur.Steps(h, bound, api.MaxBudget)
			if e != api.OK && e != api.ErrBudget || (e == api.OK) != (len(got) == len(h)) || total(got) > api.MaxBudget {
				t.Errorf("Steps of %v, %d: %v %d", h, bound, got, e)
			}
		}
	}
}

// P10.3: the first error is the one that is returned.
func TestStepsErrors(t *testing.T) {
	bounds := []int64{0, 1, api.MaxNorm, -1, api.MaxNorm + 1, math.MinInt64, math.MaxInt64}
	budgets := []int{0, 1, api.MaxBudget, -1, api.MaxBudget + 1, math.MinInt, math.MaxInt}
	for _, h := range notReduced() {
		for _, bound := range bounds {
			for _, budget := range budgets {
				expectNoSteps(t, h, bound, budget, api.ErrReduced)
			}
		}
	}
	for _, h := range forms() {
		for i, bound := range bounds {
			for j, budget := range budgets {
				if i > 2 || j > 2 {
					expectNoSteps(t, h, bound, budget, api.ErrArg)
				}
			}
		}
	}
}

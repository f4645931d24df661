package enumerate_test

import (
	"slices"
	"testing"

	"quadform/api"
	"quadform/enumerate"
)

// expectShell checks Shell with budgets around the number of steps, as far as they are allowed, and with the greatest one.
func expectShell(t *testing.T, h ints, norm int64, want ints, steps int) {
	t.Helper()
	for _, budget := range []int{0, 1, steps / 2, steps - 1, steps, steps + 1, 2 * steps, api.MaxBudget} {
		budget = min(budget, api.MaxBudget)
		if budget < steps {
			expectNoShell(t, h, norm, budget, api.ErrBudget)
		} else if list, e := enumerate.Shell(h, norm, budget); e != api.OK || !same(list, want) {
			t.Errorf("Shell of %v, %d, %d: %v %d, want %v", h, norm, budget, list, e, want)
		}
	}
}

// expectNoShell checks the error that Shell returns.
func expectNoShell(t *testing.T, h ints, norm int64, budget int, want api.Errno) {
	t.Helper()
	if list, e := enumerate.Shell(h, norm, budget); e != want || len(list) > 0 {
		t.Errorf("Shell of %v, %d, %d: %v %d, want %d", h, norm, budget, list, e, want)
	}
}

// P11.3: forms of all kinds with small norms, also with those that no vector has.
func TestShell(t *testing.T) {
	empty, full := 0, 0
	for _, h := range forms() {
		for _, norm := range []int64{0, 1, 2, 3, 4, 5, 6, 7, 8, 12, 18, 24, 36, 50, 72, 100} {
			list, steps := expected(h, norm)
			shell := slices.DeleteFunc(slices.Clone(list), func(x []int64) bool { return normOf(h, x) < norm })
			expectShell(t, h, norm, shell, steps)
			if len(shell) == 0 {
				empty++
			} else {
				full++
			}
			if steps > 300 {
				break
			}
		}
	}
	if empty < 100 || full < 100 {
		t.Errorf("%d empty shells and %d others", empty, full)
	}
}

// P11.3: the lists themselves.
func TestShellByHand(t *testing.T) {
	for _, c := range []struct {
		h     ints
		norm  int64
		want  ints
		steps int
	}{
		{unit(2), 0, nil, 2}, {unit(2), 3, nil, 12}, {unit(2), 5, ints{{1, -2}, {1, 2}, {2, -1}, {2, 1}}, 26}, {unit(2), 25, ints{{0, 5}, {3, -4}, {3, 4}, {4, -3}, {4, 3}, {5, 0}}, 92},
		{hexagon(), 0, nil, 2}, {hexagon(), 1, nil, 2}, {hexagon(), 2, ints{{0, 1}, {1, -1}, {1, 0}}, 10}, {hexagon(), 3, nil, 10}, {hexagon(), 6, ints{{1, -2}, {1, 1}, {2, -1}}, 18}, {diagonal(1, 4), 4, ints{{0, 1}, {2, 0}}, 10},
		{ints{{1}}, 0, nil, 1}, {ints{{1}}, 1, ints{{1}}, 3}, {ints{{1}}, 2, nil, 3}, {ints{{1}}, 4, ints{{2}}, 5}, {ints{{10000}}, 10000, ints{{1}}, 3}, {ints{{10000}}, 10001, nil, 3}, {ints{{10000}}, 39999, nil, 3},
	} {
		expectShell(t, c.h, c.norm, c.want, c.steps)
	}
}

// expectOfLength checks a shell that is known by its length.
func expectOfLength(t *testing.T, h ints, norm int64, want int) {
	t.Helper()
	if want > api.MaxVectors {
		expectNoShell(t, h, norm, api.MaxBudget, api.ErrTooLarge)
		return
	}
	list, e := enumerate.Shell(h, norm, api.MaxBudget)
	if e != api.OK || len(list) != want {
		t.Errorf("Shell of %v, %d: %d vectors, %d, want %d", h, norm, len(list), e, want)
	}
	expectList(t, h, norm, list)
	if len(list) > 0 && normOf(h, list[0]) < norm {
		t.Errorf("Shell of %v, %d contains %v", h, norm, list[0])
	}
}

// P11.3: root lattices, whose numbers of short vectors are known, also where there are too many shorter vectors for a list.
func TestShellOfRootLattices(t *testing.T) {
	for _, c := range thetas() {
		for i, n := range c.counts[1:] {
			norm := int64(2*i + 2)
			expectOfLength(t, c.h, norm, n/2)
			expectOfLength(t, c.h, norm-1, 0)
			expectOfLength(t, c.h, norm+1, 0)
		}
	}
}

// P11.3: diagonal forms, also with as many vectors of a norm as a list may have, and with one more.
func TestShellOfDiagonals(t *testing.T) {
	for _, c := range []struct {
		entries []int64
		norm    int64
		want    int // 0 if it is not given
	}{
		{[]int64{1, 1, 1, 1, 1, 1, 6, 7}, 15, 4096}, {[]int64{1, 1, 1, 1, 4, 4, 6, 6}, 23, 4096}, {[]int64{1, 1, 2, 2, 4, 4, 4, 7}, 28, 4097},
		{[]int64{1, 1, 1, 1, 1, 1, 1, 1}, 6, 0}, {[]int64{1, 1, 1, 1, 1, 1, 1, 1}, 7, 0}, {[]int64{1, 1, 1, 1, 1, 1, 1, 1}, 8, 0}, {[]int64{1, 1, 1, 1}, 255, 0}, {[]int64{1, 1, 1, 1}, 256, 12}, {[]int64{1, 1, 1}, 3000, 0}, {[]int64{1, 1}, 65 * 65, 18}, {[]int64{1, 4}, 40000, 0}, {[]int64{1, 10000}, 12500, 2}, {[]int64{7, 11}, 7 * 11, 0},
	} {
		counts := points(c.norm, c.entries)
		want := counts[c.norm] / 2
		if c.want > 0 && c.want != want {
			t.Errorf("%v, %d has %d vectors", c.entries, c.norm, want)
		}
		h, steps := diagonal(c.entries...), stepsOfDiagonal(c.norm, c.entries)
		expectNoShell(t, h, c.norm, min(steps-1, api.MaxBudget), api.ErrBudget)
		if steps <= api.MaxBudget {
			expectOfLength(t, h, c.norm, want)
		}
	}
}

// P11.3: forms of one vector, up to as many steps as the greatest budget allows.
func TestShellOfOneCoordinate(t *testing.T) {
	for _, entry := range []int64{1, 2, 9, 9999, 10000} {
		for _, most := range []int64{1, 2, 4096, 4097, 499999} {
			norm, steps := entry*most*most, int(2*most+1)
			expectShell(t, ints{{entry}}, norm, ints{{most}}, steps)
			expectShell(t, ints{{entry}}, norm+1, nil, steps)
			if entry > 1 || most > 1 {
				expectShell(t, ints{{entry}}, norm-1, nil, steps-2)
			}
		}
	}
}

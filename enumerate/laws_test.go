package enumerate_test

import (
	"slices"
	"testing"

	"quadform/api"
	"quadform/enumerate"
	"quadform/schur"
)

// P11.4: with a greater budget the result is the same, or there is one instead of ErrBudget.
func TestGreaterBudgets(t *testing.T) {
	for _, h := range forms() {
		for _, bound := range []int64{0, 1, 2, 3, 5} {
			list, steps, e := enumerate.Vectors(h, bound, api.MaxBudget)
			if e != api.OK {
				t.Errorf("Vectors of %v, %d: %d", h, bound, e)
			}
			count, _ := enumerate.Count(h, bound, api.MaxBudget)
			shell, _ := enumerate.Shell(h, bound, api.MaxBudget)
			for budget := 1; budget <= 2*steps; budget += 1 + budget/3 {
				if budget < steps {
					expectNone(t, h, bound, budget, api.ErrBudget)
					continue
				}
				l, n, e1 := enumerate.Vectors(h, bound, budget)
				c, e2 := enumerate.Count(h, bound, budget)
				s, e3 := enumerate.Shell(h, bound, budget)
				if !same(l, list) || n != steps || c != count || !same(s, shell) || e1 != api.OK || e2 != api.OK || e3 != api.OK {
					t.Errorf("the results for %v, %d depend on the budget %d", h, bound, budget)
				}
			}
		}
	}
}

// P11.4: the list with a lesser bound is the beginning of the list with a greater one, and the shells are its parts.
func TestLesserBounds(t *testing.T) {
	for _, h := range forms() {
		var before ints
		for bound := range int64(40) {
			list, _, e := enumerate.Vectors(h, bound, api.MaxBudget)
			if e != api.OK {
				t.Errorf("Vectors of %v, %d: %d", h, bound, e)
			}
			shell, e := enumerate.Shell(h, bound, api.MaxBudget)
			if want := slices.Concat(before, shell); e != api.OK || !same(list, want) {
				t.Errorf("Vectors of %v, %d: %v, want %v", h, bound, list, want)
			}
			if before = list; len(list) > 700 {
				break
			}
		}
	}
}

// P11.4: the steps of the greatest length are the vectors of the list, their negatives and zero; all steps are those of package schur.
func TestStepsOfLists(t *testing.T) {
	for _, h := range forms() {
		for _, bound := range []int64{0, 1, 2, 3, 5, 9, 20, 50, 200} {
			steps, _ := schur.Steps(h, bound, api.MaxBudget)
			list, all, e := enumerate.Vectors(h, bound, api.MaxBudget)
			if e == api.ErrTooLarge || e == api.ErrBudget {
				break
			}
			if e != api.OK || all != total(steps) || 2*len(list)+1 != steps[len(h)-1] {
				t.Errorf("Vectors of %v, %d: %d vectors, %d %d, and the steps %v", h, bound, len(list), all, e, steps)
			}
		}
	}
}

// P11.4: one budget for all functions is enough or not, whatever the length of the list is.
func TestCommonBudget(t *testing.T) {
	for _, h := range forms() {
		for bound := int64(1); bound < 1<<40; bound *= 5 {
			list, _, e1 := enumerate.Vectors(h, bound, api.MaxBudget/10)
			n, e2 := enumerate.Count(h, bound, api.MaxBudget/10)
			if e2 == api.ErrBudget {
				expectNone(t, h, bound, api.MaxBudget/10, api.ErrBudget)
				break
			}
			if e2 != api.OK || (n > api.MaxVectors) != (e1 == api.ErrTooLarge) || e1 == api.OK && n != len(list) {
				t.Errorf("Vectors and Count of %v, %d: %d %d %d %d", h, bound, len(list), e1, n, e2)
			}
		}
	}
}

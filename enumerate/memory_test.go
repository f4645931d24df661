package enumerate_test

import (
	"fmt"
	"slices"
	"testing"

	"quadform/api"
	"quadform/enumerate"
)

// takes adds the places of a list, as far as it reaches, to a set; false if one of them was there before.
func takes[T any](set map[any]bool, list []T) bool {
	whole := list[:cap(list)]
	for i := range whole {
		if set[&whole[i]] {
			return false
		}
		set[&whole[i]] = true
	}
	return true
}

// takesRows adds the places of a matrix and of its rows to a set.
func takesRows(set map[any]bool, l ints) bool {
	return takes(set, l) && !slices.ContainsFunc(l, func(row []int64) bool { return !takes(set, row) })
}

// roomy returns a copy of a form with elements behind the ends of all slices.
func roomy(h ints) ints {
	var out ints
	for _, row := range h {
		out = append(out, append(slices.Clone(row), 3, -4)[:len(row)])
	}
	return append(out, []int64{1}, nil)[:len(h)]
}

// reach returns the text of all the memory that a form reaches.
func reach(h ints) string {
	text := fmt.Sprint(h[:cap(h)])
	for _, row := range h[:cap(h)] {
		text += fmt.Sprint(row[:cap(row)])
	}
	return text
}

// results are the lists of all functions, and the text of all results.
type results struct {
	list, shell ints
	text        string
}

// call calls every function.
func call(h ints, bound int64, budget int) results {
	list, steps, e1 := enumerate.Vectors(h, bound, budget)
	n, e2 := enumerate.Count(h, bound, budget)
	shell, e3 := enumerate.Shell(h, bound, budget)
	return results{list, shell, fmt.Sprint(list, steps, e1, n, e2, shell, e3)}
}

// takes adds the places of the results to a set.
func (r results) takes(set map[any]bool) bool {
	return takesRows(set, r.list) && takesRows(set, r.shell)
}

// forArguments calls f with arguments of all dimensions, some of which are wrong.
func forArguments(f func(h ints, bound int64, budget int)) {
	for _, h := range forms() {
		f(h, 2, 3000)
		f(h, 4, api.MaxBudget)
		f(h, h[0][0], 10000)
		f(h, -1, 5)
		f(h, 3, 2)
	}
	for _, h := range notReduced() {
		f(h, 5, 100)
	}
	f(ints{{1}}, 4097*4097, api.MaxBudget)
}

// R2, for P11.1 to P11.3: the form is not changed, and results share no memory with it or with each other.
func TestMemory(t *testing.T) {
	forArguments(func(h ints, bound int64, budget int) {
		mine, used := roomy(h), map[any]bool{}
		before := reach(mine)
		r := call(mine, bound, budget)
		if reach(mine) != before {
			t.Errorf("the form was changed: %v, %d, %d", h, bound, budget)
		}
		if !takesRows(used, mine) || !r.takes(used) {
			t.Errorf("memory is shared: %v, %d, %d", h, bound, budget)
		}
	})
}

// R3: a second call returns the same results, in other memory.
func TestNoState(t *testing.T) {
	forArguments(func(h ints, bound int64, budget int) {
		first, second := call(h, bound, budget), call(h, bound, budget)
		if first.text != second.text {
			t.Errorf("a second call returns other results: %v, %d, %d", h, bound, budget)
		}
		if used := (map[any]bool{}); !first.takes(used) || !second.takes(used) {
			t.Errorf("the results of two calls share memory: %v, %d, %d", h, bound, budget)
		}
	})
}

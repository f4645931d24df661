package schur_test

import (
	"fmt"
	"math/rand/v2"
	"slices"
	"testing"

	"quadform/api"
	"quadform/schur"
)

// takes adds the places of a list, as far as it reaches, to a set; false if one of them was there before.
func takes[T any](set map[any]bool, list []T) bool {
	whole := list[:cap(list)]
	for i := range whole {
		if set[&whole[i]] {
			return false
		}
		set[&whole[i]] = true
	}
	return true
}

// roomy returns a copy of list with elements behind its end.
func roomy[T any](list []T, behind ...T) []T {
	return append(slices.Clone(list), behind...)[:len(list)]
}

// arguments are those of all functions.
type arguments struct {
	h      ints
	tail   []int64
	bound  int64
	budget int
}

// copied returns a copy with elements behind the ends of all slices.
func (a arguments) copied() arguments {
	var h ints
	for _, row := range a.h {
		h = append(h, roomy(row, 3, -4))
	}
	return arguments{roomy(h, []int64{1}, nil), roomy(a.tail, 5, 6), a.bound, a.budget}
}

// reach returns the text of all the memory that the arguments reach.
func (a arguments) reach() string {
	text := fmt.Sprint(a.tail[:cap(a.tail)], a.h[:cap(a.h)])
	for _, row := range a.h[:cap(a.h)] {
		text += fmt.Sprint(row[:cap(row)])
	}
	return text
}

// takes adds the places of the arguments to a set.
func (a arguments) takes(set map[any]bool) bool {
	return takes(set, a.tail) && takes(set, a.h) && !slices.ContainsFunc(a.h, func(row []int64) bool { return !takes(set, row) })
}

// results are those of all functions: the lists, and the text of all results.
type results struct {
	norm  api.Rat
	steps []int
	text  string
}

// results calls every function.
func (a arguments) results() results {
	var r results
	var e api.Errno
	var ok bool
	r.norm, ok = schur.PartialNorm(a.h, a.tail)
	r.steps, e = schur.Steps(a.h, a.bound, a.budget)
	lo, hi, has := schur.Interval(a.h, a.bound, a.tail)
	r.text = fmt.Sprint(r.norm, ok, r.steps, e, lo, hi, has)
	return r
}

// takes adds the places of the results to a set.
func (r results) takes(set map[any]bool) bool {
	return takes(set, r.norm.Num.Mag) && takes(set, r.norm.Den.Mag) && takes(set, r.steps)
}

// forArguments calls f with arguments of all dimensions, some of which are wrong.
func forArguments(f func(a arguments)) {
	random := rand.New(rand.NewPCG(19, 20))
	for _, h := range forms() {
		for m := range len(h) + 2 {
			f(arguments{h, slices.Repeat([]int64{-1}, m), 9, 1000})
			f(arguments{h, tailOf(random, m), api.MaxNorm, 20})
			f(arguments{h, make([]int64, m), 2, api.MaxBudget})
		}
		f(arguments{h, []int64{top + 1}, -1, 1})
	}
	for _, h := range notReduced() {
		f(arguments{h, []int64{1}, 5, 100})
	}
}

// R2, for P10.1 to P10.3: arguments are not changed, and results share no memory with them or with each other.
func TestMemory(t *testing.T) {
	forArguments(func(a arguments) {
		mine, used := a.copied(), map[any]bool{}
		before := mine.reach()
		r := mine.results()
		if mine.reach() != before {
			t.Errorf("an argument was changed: %v", a)
		}
		if !mine.takes(used) || !r.takes(used) {
			t.Errorf("memory is shared: %v", a)
		}
	})
}

// R2: a row of the form may be given as the tail.
func TestEqualArguments(t *testing.T) {
	forArguments(func(a arguments) {
		for i := range a.h {
			shared := arguments{a.h, a.h[i], 1000, 10}
			if shared.results().text != shared.copied().results().text {
				t.Errorf("results depend on the sharing of memory by the arguments: %v", shared)
			}
		}
	})
}

// R3: a second call returns the same results, in other memory.
func TestNoState(t *testing.T) {
	forArguments(func(a arguments) {
		first, second := a.results(), a.results()
		if first.text != second.text {
			t.Errorf("a second call returns other results: %v", a)
		}
		if used := (map[any]bool{}); !first.takes(used) || !second.takes(used) {
			t.Errorf("the results of two calls share memory: %v", a)
		}
	})
}

package hermite_test

import (
	"fmt"
	"math/rand/v2"
	"slices"
	"testing"

	"quadform/api"
	"quadform/hermite"
	"quadform/integer"
)

// memory is the set of the places that belong to slices, as far as these reach.
type memory struct {
	rows    map[*[]api.Int]bool
	entries map[*api.Int]bool
	limbs   map[*uint32]bool
}

// takes adds the places of a list to a set; false if one of them was there before.
func takes[T any](set map[*T]bool, list []T) bool {
	whole := list[:cap(list)]
	for i := range whole {
		if set[&whole[i]] {
			return false
		}
		set[&whole[i]] = true
	}
	return true
}

// apart reports whether the matrices, their rows and their entries share no memory with each other.
func apart(list ...[][]api.Int) bool {
	used := memory{map[*[]api.Int]bool{}, map[*api.Int]bool{}, map[*uint32]bool{}}
	for _, m := range list {
		if !takes(used.rows, m) {
			return false
		}
		for _, row := range m {
			if !takes(used.entries, row) {
				return false
			}
			for _, a := range row {
				if !takes(used.limbs, a.Mag) {
					return false
				}
			}
		}
	}
	return true
}

// roomy returns a copy of list with numbers behind its end.
func roomy[T any](list []T, behind ...T) []T {
	return append(slices.Clone(list), behind...)[:len(list)]
}

// copyOf returns a copy of m with numbers behind the ends of its slices.
func copyOf(m [][]api.Int) [][]api.Int {
	var out [][]api.Int
	for _, row := range m {
		var entries []api.Int
		for _, a := range row {
			entries = append(entries, api.Int{Neg: a.Neg, Mag: roomy(a.Mag, 5, 6)})
		}
		out = append(out, roomy(entries, small(7), small(8)))
	}
	return roomy(out, column(9), nil)
}

// whole returns m with all its slices extended as far as they reach.
func whole(m [][]api.Int) [][]api.Int {
	var out [][]api.Int
	for _, row := range m[:cap(m)] {
		var entries []api.Int
		for _, a := range row[:cap(row)] {
			entries = append(entries, api.Int{Neg: a.Neg, Mag: a.Mag[:cap(a.Mag)]})
		}
		out = append(out, entries)
	}
	return out
}

// results calls every function, and returns the results as matrices.
func results(a, b [][]api.Int, x []api.Int) [][][]api.Int {
	h, u, _ := hermite.Form(a)
	basis, _ := hermite.Basis(a)
	index, _ := hermite.Index(a)
	kernel, _ := hermite.Kernel(a)
	extended, _ := hermite.Extend(a)
	answers := [][]api.Int{{index}}
	for _, answer := range []bool{hermite.IsForm(a), hermite.SameLattice(a, b), hermite.Contains(a, x)} {
		if answer {
			answers = append(answers, []api.Int{integer.Small(1)})
		} else {
			answers = append(answers, []api.Int{integer.Small(0)})
		}
	}
	return [][][]api.Int{h, u, basis, kernel, extended, answers}
}

// forSamples calls f with pairs of matrices of as many rows, and columns that fit to them.
func forSamples(f func(a, b [][]api.Int, x []api.Int)) {
	random := rand.New(rand.NewPCG(17, 18))
	for rows := 1; rows <= 4; rows++ {
		for cols := 1; cols <= 4; cols++ {
			for _, a := range [][][]api.Int{longMatrix(random, rows, cols, 3), smallMatrix(random, rows, cols, 1), smallMatrix(random, rows, cols, 5), dependent(random, rows, cols, min(rows, cols)-1), of(zeros(rows, cols))} {
				f(a, smallMatrix(random, rows, 1+random.IntN(4), 2), longMatrix(random, 1, rows, 2)[0])
			}
		}
		f(unimodular(random, rows), unimodular(random, rows), column(make([]int64, rows)...))
	}
	f(of(ints{{1, 0}, {3, 6}}), of(ints{{2, 1}, {0, 3}}), column(-3, 6)) // all answers are yes
	f(of(ints{{2}, {3}}), of(ints{{-2}, {-3}}), column(4, 6))
}

// R2, for P5.1 to P5.8: arguments are not changed, and results share no memory with them or with each other.
func TestMemory(t *testing.T) {
	forSamples(func(a, b [][]api.Int, x []api.Int) {
		args := [][][]api.Int{copyOf(a), copyOf(b), copyOf([][]api.Int{x})}
		before := fmt.Sprint(args, whole(args[0]), whole(args[1]), whole(args[2]))
		list := results(args[0], args[1], args[2][0])
		if fmt.Sprint(args, whole(args[0]), whole(args[1]), whole(args[2])) != before {
			t.Errorf("an argument was changed: %v, %v, %v", a, b, x)
		}
		if !apart(append(args, list...)...) {
			t.Errorf("memory is shared: %v, %v, %v", a, b, x)
		}
	})
}

// R2: the arguments may share their memory, with each other and with themselves.
func TestEqualArguments(t *testing.T) {
	forSamples(func(a, b [][]api.Int, x []api.Int) {
		for _, m := range [][][]api.Int{a, slices.Repeat([][]api.Int{a[0]}, len(a[0]))} {
			if len(m) != len(m[0]) {
				continue
			}
			if fmt.Sprint(results(m, m, m[0])) != fmt.Sprint(results(copyOf(m), copyOf(m), copyOf(m)[0])) {
				t.Errorf("results depend on the sharing of memory by the arguments: %v", m)
			}
		}
	})
}

// R2 and R3: a second call returns the same results, in other memory.
func TestNoState(t *testing.T) {
	forSamples(func(a, b [][]api.Int, x []api.Int) {
		first, second := results(a, b, x), results(a, b, x)
		if fmt.Sprint(first) != fmt.Sprint(second) {
			t.Errorf("a second call returns other results: %v, %v, %v", a, b, x)
		}
		if !apart(append(first, second...)...) {
			t.Errorf("the results of two calls share memory: %v, %v, %v", a, b, x)
		}
	})
}

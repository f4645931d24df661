package bareiss_test

import (
	"fmt"
	"math/rand/v2"
	"slices"
	"testing"

	"quadform/api"
	"quadform/bareiss"
	"quadform/integer"
)

// memory is the set of the places that belong to slices, as far as these reach.
type memory struct {
	rows    map[*[]api.Int]bool
	entries map[*api.Int]bool
	limbs   map[*uint32]bool
}

// takes adds the places of a list to a set; false if one of them was there before.
func takes[T any](set map[*T]bool, list []T) bool {
	whole := list[:cap(list)]
	for i := range whole {
		if set[&whole[i]] {
			return false
		}
		set[&whole[i]] = true
	}
	return true
}

// apart reports whether the matrices, their rows and their entries share no memory with each other.
func apart(list ...[][]api.Int) bool {
	used := memory{map[*[]api.Int]bool{}, map[*api.Int]bool{}, map[*uint32]bool{}}
	for _, m := range list {
		if !takes(used.rows, m) {
			return false
		}
		for _, row := range m {
			if !takes(used.entries, row) {
				return false
			}
			for _, a := range row {
				if !takes(used.limbs, a.Mag) {
					return false
				}
			}
		}
	}
	return true
}

// roomy returns a copy of list with numbers behind its end.
func roomy[T any](list []T, behind ...T) []T {
	return append(slices.Clone(list), behind...)[:len(list)]
}

// copyOf returns a copy of m with numbers behind the ends of its slices.
func copyOf(m [][]api.Int) [][]api.Int {
	var out [][]api.Int
	for _, row := range m {
		var entries []api.Int
		for _, a := range row {
			entries = append(entries, api.Int{Neg: a.Neg, Mag: roomy(a.Mag, 5, 6)})
		}
		out = append(out, roomy(entries, small(7), small(8)))
	}
	return roomy(out, column(9), nil)
}

// whole returns m with all its slices extended as far as they reach.
func whole(m [][]api.Int) [][]api.Int {
	var out [][]api.Int
	for _, row := range m[:cap(m)] {
		var entries []api.Int
		for _, a := range row[:cap(row)] {
			entries = append(entries, api.Int{Neg: a.Neg, Mag: a.Mag[:cap(a.Mag)]})
		}
		out = append(out, entries)
	}
	return out
}

// results calls every function with a square matrix, and returns the numbers of the results as matrices.
func results(m [][]api.Int, b []api.Int) [][][]api.Int {
	list, _ := bareiss.Stages(m)
	minors, _ := bareiss.Leading(m)
	rank, _ := bareiss.Rank(m)
	x, _ := bareiss.Solve(m, b)
	list = append(slices.Clone(list), [][]api.Int{minors}, [][]api.Int{{integer.Small(int64(rank))}})
	for _, a := range x {
		list = append(list, [][]api.Int{{a.Num}, {a.Den}})
	}
	if bareiss.Definite(m) {
		list = append(list, nil)
	}
	return list
}

// forSamples calls f with square matrices with and without stages, and columns that fit.
func forSamples(f func(m [][]api.Int, b []api.Int)) {
	random := rand.New(rand.NewPCG(19, 20))
	for n := 1; n <= 5; n++ {
		for _, m := range [][][]api.Int{longMatrix(random, n, n, 3), smallMatrix(random, n, n, 1), dependent(random, n, n, n-1), gram(smallMatrix(random, n, n, 2)), of(zeros(n, n))} {
			f(m, longMatrix(random, 1, n, 2)[0])
		}
	}
	f(of(ints{{0, 2}, {-3, 0}}), column(4, 6))
}

// R2, for P4.1 to P4.5: arguments are not changed, and results share no memory with them or with each other.
func TestMemory(t *testing.T) {
	forSamples(func(m [][]api.Int, b []api.Int) {
		args := [][][]api.Int{copyOf(m), copyOf([][]api.Int{b})}
		before := fmt.Sprint(args, whole(args[0]), whole(args[1]))
		list := results(args[0], args[1][0])
		if fmt.Sprint(args, whole(args[0]), whole(args[1])) != before {
			t.Errorf("an argument was changed: %v, %v", m, b)
		}
		if !apart(append(args, list...)...) {
			t.Errorf("memory is shared: %v, %v", m, b)
		}
	})
}

// R2: the rows of m and the column b may be the same slice.
func TestEqualArguments(t *testing.T) {
	forSamples(func(m [][]api.Int, b []api.Int) {
		for _, rows := range [][][]api.Int{m, slices.Repeat([][]api.Int{m[0]}, len(m))} {
			if fmt.Sprint(results(rows, rows[0])) != fmt.Sprint(results(copyOf(rows), copyOf(rows)[0])) {
				t.Errorf("results depend on the sharing of memory by the arguments: %v", rows)
			}
		}
	})
}

// R2 and R3: a second call returns the same results, in other memory.
func TestNoState(t *testing.T) {
	forSamples(func(m [][]api.Int, b []api.Int) {
		first, second := results(m, b), results(m, b)
		if fmt.Sprint(first) != fmt.Sprint(second) {
			t.Errorf("a second call returns other results: %v, %v", m, b)
		}
		if !apart(append(first, second...)...) {
			t.Errorf("the results of two calls share memory: %v, %v", m, b)
		}
	})
}

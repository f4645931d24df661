package smith_test

import (
	"fmt"
	"math/rand/v2"
	"slices"
	"testing"

	"quadform/api"
	"quadform/integer"
	"quadform/smith"
)

// memory is the set of the places that belong to slices, as far as these reach.
type memory struct {
	rows    map[*[]api.Int]bool
	entries map[*api.Int]bool
	limbs   map[*uint32]bool
}

// takes adds the places of a list to a set; false if one of them was there before.
func takes[T any](set map[*T]bool, list []T) bool {
	whole := list[:cap(list)]
	for i := range whole {
		if set[&whole[i]] {
			return false
		}
		set[&whole[i]] = true
	}
	return true
}

// apart reports whether the matrices, their rows and their entries share no memory with each other.
func apart(list ...[][]api.Int) bool {
	used := memory{map[*[]api.Int]bool{}, map[*api.Int]bool{}, map[*uint32]bool{}}
	for _, m := range list {
		if !takes(used.rows, m) {
			return false
		}
		for _, row := range m {
			if !takes(used.entries, row) {
				return false
			}
			for _, a := range row {
				if !takes(used.limbs, a.Mag) {
					return false
				}
			}
		}
	}
	return true
}

// roomy returns a copy of list with numbers behind its end.
func roomy[T any](list []T, behind ...T) []T {
	return append(slices.Clone(list), behind...)[:len(list)]
}

// copyOf returns a copy of m with numbers behind the ends of its slices.
func copyOf(m [][]api.Int) [][]api.Int {
	var out [][]api.Int
	for _, row := range m {
		var entries []api.Int
		for _, a := range row {
			entries = append(entries, api.Int{Neg: a.Neg, Mag: roomy(a.Mag, 5, 6)})
		}
		out = append(out, roomy(entries, small(7), small(8)))
	}
	return roomy(out, []api.Int{small(9)}, nil)
}

// whole returns m with all its slices extended as far as they reach.
func whole(m [][]api.Int) [][]api.Int {
	var out [][]api.Int
	for _, row := range m[:cap(m)] {
		var entries []api.Int
		for _, a := range row[:cap(row)] {
			entries = append(entries, api.Int{Neg: a.Neg, Mag: a.Mag[:cap(a.Mag)]})
		}
		out = append(out, entries)
	}
	return out
}

// results calls every function, and returns the results as matrices.
func results(m [][]api.Int) [][][]api.Int {
	d, u, v, _ := smith.Form(m)
	factors, _ := smith.Factors(m)
	divisors, _ := smith.Divisors(m)
	exponent, _ := smith.Exponent(m)
	isForm := integer.Small(0)
	if smith.IsForm(m) {
		isForm = integer.Small(1)
	}
	return [][][]api.Int{d, u, v, {factors}, {divisors}, {{exponent}}, {{isForm}}}
}

// forSamples calls f with matrices, some of which are Smith forms.
func forSamples(f func(m [][]api.Int)) {
	random := rand.New(rand.NewPCG(15, 16))
	for rows := 1; rows <= 4; rows++ {
		for cols := 1; cols <= 4; cols++ {
			least := min(rows, cols)
			known, _ := withFactors(random, rows, cols)
			form := diagonal(rows, cols, must(smith.Factors(known)))
			for _, m := range [][][]api.Int{known, form, longMatrix(random, rows, cols, 3), smallMatrix(random, rows, cols, 5), dependent(random, rows, cols, least-1), diagonal(rows, cols, randomFactors(random, least, 60)), of(zeros(rows, cols))} {
				f(m)
			}
		}
	}
}

// R2, for P6.1 to P6.5: arguments are not changed, and results share no memory with them or with each other.
func TestMemory(t *testing.T) {
	forSamples(func(m [][]api.Int) {
		arg := copyOf(m)
		before := fmt.Sprint(arg, whole(arg))
		list := results(arg)
		if fmt.Sprint(arg, whole(arg)) != before {
			t.Errorf("an argument was changed: %v", m)
		}
		if !apart(append(list, arg)...) {
			t.Errorf("memory is shared: %v", m)
		}
	})
}

// R2: the rows of an argument may share their memory with each other.
func TestEqualRows(t *testing.T) {
	forSamples(func(m [][]api.Int) {
		equal := slices.Repeat(m[:1], len(m))
		if fmt.Sprint(results(equal)) != fmt.Sprint(results(copyOf(equal))) {
			t.Errorf("results depend on the sharing of memory by the rows: %v", equal)
		}
	})
}

// R3: a second call returns the same results, in other memory.
func TestNoState(t *testing.T) {
	forSamples(func(m [][]api.Int) {
		first, second := results(m), results(m)
		if fmt.Sprint(first) != fmt.Sprint(second) {
			t.Errorf("a second call returns other results: %v", m)
		}
		if !apart(append(first, second...)...) {
			t.Errorf("the results of two calls share memory: %v", m)
		}
	})
}

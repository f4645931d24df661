package lll_test

import (
	"fmt"
	"math/rand/v2"
	"slices"
	"strings"
	"testing"

	"quadform/api"
	"quadform/lll"
)

// takes adds the places of a list, as far as it reaches, to a set; false if one of them was there before.
func takes[T any](set map[any]bool, list []T) bool {
	whole := list[:cap(list)]
	for i := range whole {
		if set[&whole[i]] {
			return false
		}
		set[&whole[i]] = true
	}
	return true
}

// takesForm adds the places of a form to a set.
func takesForm(set map[any]bool, h ints) bool {
	return takes(set, h) && !slices.ContainsFunc(h, func(row []int64) bool { return !takes(set, row) })
}

// takesMatrix adds the places of a matrix to a set.
func takesMatrix(set map[any]bool, m [][]api.Int) bool {
	return takes(set, m) && !slices.ContainsFunc(m, func(row []api.Int) bool {
		return !takes(set, row) || slices.ContainsFunc(row, func(a api.Int) bool { return !takes(set, a.Mag) })
	})
}

// roomy returns a copy of list with elements behind its end.
func roomy[T any](list []T, behind ...T) []T {
	return append(slices.Clone(list), behind...)[:len(list)]
}

// arguments are those of all functions.
type arguments struct {
	g    [][]api.Int
	h    ints
	base [][]api.Int
}

// copied returns a copy with elements behind the ends of all slices.
func (a arguments) copied() arguments {
	matrix := func(m [][]api.Int) [][]api.Int {
		var out [][]api.Int
		for _, row := range m {
			var entries []api.Int
			for _, n := range row {
				entries = append(entries, api.Int{Neg: n.Neg, Mag: roomy(n.Mag, 5, 6)})
			}
			out = append(out, roomy(entries, small(7), small(8)))
		}
		return roomy(out, []api.Int{small(9)}, nil)
	}
	var h ints
	for _, row := range a.h {
		h = append(h, roomy(row, 3, 4))
	}
	return arguments{matrix(a.g), roomy(h, []int64{1}, nil), matrix(a.base)}
}

// state returns the text of all the memory that the arguments reach.
func (a arguments) state() string {
	text := new(strings.Builder)
	fmt.Fprint(text, a)
	for _, row := range a.h[:cap(a.h)] {
		fmt.Fprint(text, row[:cap(row)])
	}
	for _, m := range [][][]api.Int{a.g, a.base} {
		for _, row := range m[:cap(m)] {
			for _, n := range row[:cap(row)] {
				fmt.Fprint(text, n.Neg, n.Mag[:cap(n.Mag)])
			}
		}
	}
	return text.String()
}

// takes adds the places of the arguments to a set.
func (a arguments) takes(set map[any]bool) bool {
	return takesMatrix(set, a.g) && takesForm(set, a.h) && takesMatrix(set, a.base)
}

// forArguments calls f with arguments of all dimensions, some of which are wrong.
func forArguments(f func(a arguments)) {
	random := rand.New(rand.NewPCG(15, 16))
	for _, l := range lattices() {
		g := intsOf(changed(valuesOfInts(l.g), unimodular(random, len(l.g), random.IntN(4))))
		h, base, _ := lll.Reduce(g)
		f(arguments{g, h, base})
		f(arguments{of(l.g), l.g, of(unit(len(l.g)))})
		f(arguments{g, l.g, of(l.g)})
	}
	for _, c := range wrongs() {
		f(arguments{c.g, unit(2), c.g})
		f(arguments{of(unit(2)), unit(2), c.g})
	}
	for _, h := range []ints{nil, {{}}, {{1, 0}}, {{1}, {0, 1}}, {{2, 1}, {0, 2}}, {{5, 0}, {0, 1}}, unit(9)} {
		f(arguments{of(unit(2)), h, of(unit(2))})
	}
}

// answers calls every function and returns the text of the results.
func answers(a arguments) (ints, [][]api.Int, string) {
	h, base, e := lll.Reduce(a.g)
	return h, base, fmt.Sprint(h, base, e, lll.IsReduced(a.h), lll.Verify(a.g, a.h, a.base))
}

// R2, for P8.1 to P8.3: arguments are not changed, and results share no memory with them or with each other.
func TestMemory(t *testing.T) {
	forArguments(func(a arguments) {
		mine, used := a.copied(), map[any]bool{}
		before := mine.state()
		h, base, _ := answers(mine)
		if mine.state() != before {
			t.Errorf("an argument was changed: %v", a)
		}
		if !mine.takes(used) || !takesForm(used, h) || !takesMatrix(used, base) {
			t.Errorf("memory is shared: %v", a)
		}
	})
}

// R2: the same matrix, row or number may be given several times.
func TestEqualArguments(t *testing.T) {
	forArguments(func(a arguments) {
		a.base = a.g
		_, _, shared := answers(a)
		if _, _, apart := answers(a.copied()); shared != apart {
			t.Errorf("results depend on the sharing of memory by the arguments: %v", a)
		}
	})
	one, zero := small(1), small(0)
	first, second := []api.Int{one, zero}, []api.Int{zero, one}
	if e := lll.Verify([][]api.Int{first, second}, unit(2), [][]api.Int{second, first}); e != api.OK {
		t.Errorf("Verify of matrices that share rows: %d", e)
	}
}

// R3: a second call returns the same results, in other memory.
func TestNoState(t *testing.T) {
	forArguments(func(a arguments) {
		first, base, text := answers(a)
		second, baseAgain, textAgain := answers(a)
		if text != textAgain {
			t.Errorf("a second call returns other results: %v", a)
		}
		used := map[any]bool{}
		if !takesForm(used, first) || !takesMatrix(used, base) || !takesForm(used, second) || !takesMatrix(used, baseAgain) {
			t.Errorf("the results of two calls share memory: %v", a)
		}
	})
}

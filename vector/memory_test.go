package vector_test

import (
	"fmt"
	"math/rand/v2"
	"slices"
	"testing"

	"quadform/vector"
)

// takes adds the places of a list, as far as it reaches, to a set; false if one of them was there before.
func takes[T any](set map[any]bool, list []T) bool {
	whole := list[:cap(list)]
	for i := range whole {
		if set[&whole[i]] {
			return false
		}
		set[&whole[i]] = true
	}
	return true
}

// takesMatrix adds the places of a matrix to a set.
func takesMatrix(set map[any]bool, l ints) bool {
	return takes(set, l) && !slices.ContainsFunc(l, func(row []int64) bool { return !takes(set, row) })
}

// roomy returns a copy of list with elements behind its end.
func roomy[T any](list []T, behind ...T) []T {
	return append(slices.Clone(list), behind...)[:len(list)]
}

// copied returns a copy of a matrix with elements behind the ends of all slices.
func copied(l ints) ints {
	var out ints
	for _, row := range l {
		out = append(out, roomy(row, 3, -4))
	}
	return roomy(out, []int64{1}, nil)
}

// reach returns the text of all the memory that a matrix reaches.
func reach(l ints) string {
	text := fmt.Sprint(l[:cap(l)])
	for _, row := range l[:cap(l)] {
		text += fmt.Sprint(row[:cap(row)])
	}
	return text
}

// arguments are those of all functions: a form, a list of vectors and two vectors.
type arguments struct {
	h, l ints
	x, y []int64
}

// copied returns a copy with elements behind the ends of all slices.
func (a arguments) copied() arguments {
	return arguments{copied(a.h), copied(a.l), roomy(a.x, 5, 6), roomy(a.y, 7, 8)}
}

// reach returns the text of all the memory that the arguments reach.
func (a arguments) reach() string {
	return reach(a.h) + reach(a.l) + fmt.Sprint(a.x[:cap(a.x)], a.y[:cap(a.y)])
}

// takes adds the places of the arguments to a set.
func (a arguments) takes(set map[any]bool) bool {
	return takesMatrix(set, a.h) && takesMatrix(set, a.l) && takes(set, a.x) && takes(set, a.y)
}

// results are those of all functions: the lists, and the text of all results.
type results struct {
	signed                    []int64
	sorted, gram, transformed ints
	text                      string
}

// results calls every function.
func (a arguments) results() results {
	var r results
	var oks [4]bool
	r.signed, oks[0] = vector.CanonicalSign(a.x)
	r.sorted, oks[1] = vector.SortUnique(a.h, a.l)
	r.gram, oks[2] = vector.Gram(a.h, a.l)
	r.transformed, oks[3] = vector.Transform(a.h, a.l)
	norm, hasNorm := vector.Norm(a.h, a.x)
	inner, hasInner := vector.Inner(a.h, a.x, a.y)
	r.text = fmt.Sprint(r.signed, r.sorted, r.gram, r.transformed, oks, norm, hasNorm, inner, hasInner, vector.Valid(a.h, a.x), vector.Compare(a.x, a.y), vector.Content(a.x), vector.Unimodular(a.l))
	return r
}

// takes adds the places of the results to a set.
func (r results) takes(set map[any]bool) bool {
	return takes(set, r.signed) && takesMatrix(set, r.sorted) && takesMatrix(set, r.gram) && takesMatrix(set, r.transformed)
}

// forArguments calls f with arguments of all dimensions, some of which are wrong.
func forArguments(f func(a arguments)) {
	random := rand.New(rand.NewPCG(35, 36))
	for _, h := range forms() {
		n := len(h)
		positive, other := one(n, 0, 5), shortVector(random, n, 9)
		f(arguments{h, unimodular(random, n, 2), positive, other})
		f(arguments{h, slices.Concat(unit(n), multiple(-1, unit(n)), h), negative(positive), positive})
		f(arguments{h, multiple(top, unit(n)), other, one(n, n-1, top)})
		f(arguments{h, append(unit(n), other, nil), nil, one(n, 0, top+1)})
		f(arguments{h, nil, make([]int64, n+1), make([]int64, n)})
	}
	for _, h := range notReduced() {
		f(arguments{h, unit(2), []int64{1, -1}, []int64{-1, 1}})
		f(arguments{unit(2), h, []int64{1, -1}, []int64{-1, 1}})
	}
}

// R2, for P9.1 to P9.9: arguments are not changed, and results share no memory with them or with each other.
func TestMemory(t *testing.T) {
	forArguments(func(a arguments) {
		mine, used := a.copied(), map[any]bool{}
		before := mine.reach()
		r := mine.results()
		if mine.reach() != before {
			t.Errorf("an argument was changed: %v", a)
		}
		if !mine.takes(used) || !r.takes(used) {
			t.Errorf("memory is shared: %v", a)
		}
	})
}

// R2: the same matrix or row may be given several times.
func TestEqualArguments(t *testing.T) {
	forArguments(func(a arguments) {
		a.l, a.y = a.h, a.x
		if a.results().text != a.copied().results().text {
			t.Errorf("results depend on the sharing of memory by the arguments: %v", a)
		}
	})
	row := []int64{-1, 0}
	list, ok := vector.SortUnique(unit(2), ints{row, row, row})
	if !ok || !sameLists(list, ints{{1, 0}}) || row[0] != -1 {
		t.Errorf("SortUnique of equal rows: %v", list)
	}
	if m, ok := vector.Gram(unit(2), ints{row, row}); !ok || !sameLists(m, ints{{1, 1}, {1, 1}}) || !takesMatrix(map[any]bool{}, m) {
		t.Errorf("Gram of equal rows: %v", m)
	}
}

// R3: a second call returns the same results, in other memory.
func TestNoState(t *testing.T) {
	forArguments(func(a arguments) {
		first, second := a.results(), a.results()
		if first.text != second.text {
			t.Errorf("a second call returns other results: %v", a)
		}
		if used := (map[any]bool{}); !first.takes(used) || !second.takes(used) {
			t.Errorf("the results of two calls share memory: %v", a)
		}
	})
}

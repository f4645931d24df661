package gram_test

import (
	"fmt"
	"math/rand/v2"
	"slices"
	"testing"

	"quadform/api"
	"quadform/gram"
)

// memory is the set of the places that belong to slices, as far as these reach.
type memory struct {
	rows    map[*[]api.Int]bool
	entries map[*api.Int]bool
	limbs   map[*uint32]bool
}

// takes adds the places of a list to a set; false if one of them was there before.
func takes[T any](set map[*T]bool, list []T) bool {
	whole := list[:cap(list)]
	for i := range whole {
		if set[&whole[i]] {
			return false
		}
		set[&whole[i]] = true
	}
	return true
}

// apart reports whether the matrices, their rows and their entries share no memory with each other.
func apart(list ...[][]api.Int) bool {
	used := memory{map[*[]api.Int]bool{}, map[*api.Int]bool{}, map[*uint32]bool{}}
	for _, m := range list {
		if !takes(used.rows, m) {
			return false
		}
		for _, row := range m {
			if !takes(used.entries, row) {
				return false
			}
			for _, a := range row {
				if !takes(used.limbs, a.Mag) {
					return false
				}
			}
		}
	}
	return true
}

// roomy returns a copy of list with numbers behind its end.
func roomy[T any](list []T, behind ...T) []T {
	return append(slices.Clone(list), behind...)[:len(list)]
}

// copyOf returns a copy of m with numbers behind the ends of its slices.
func copyOf(m [][]api.Int) [][]api.Int {
	var out [][]api.Int
	for _, row := range m {
		var entries []api.Int
		for _, a := range row {
			entries = append(entries, api.Int{Neg: a.Neg, Mag: roomy(a.Mag, 5, 6)})
		}
		out = append(out, roomy(entries, small(7), small(8)))
	}
	return roomy(out, []api.Int{small(9)}, nil)
}

// whole returns m with all its slices extended as far as they reach.
func whole(m [][]api.Int) [][]api.Int {
	var out [][]api.Int
	for _, row := range m[:cap(m)] {
		var entries []api.Int
		for _, a := range row[:cap(row)] {
			entries = append(entries, api.Int{Neg: a.Neg, Mag: a.Mag[:cap(a.Mag)]})
		}
		out = append(out, entries)
	}
	return out
}

// sample contains arguments of all functions.
type sample struct {
	g, other, t [][]api.Int
	x, y        []api.Int
	c           api.Int
}

// forSamples calls f with arguments of all dimensions, some of which are wrong.
func forSamples(f func(s sample)) {
	random := rand.New(rand.NewPCG(15, 16))
	all := forms()
	for _, c := range wrongs() {
		all = append(all, c.g)
	}
	for _, g := range all {
		n := max(1, len(g))
		f(sample{g, all[random.IntN(len(all))], smallMatrix(random, n, 1+random.IntN(n), 3), longMatrix(random, 1, n, 3)[0], longMatrix(random, 1, n, 3)[0], small(int64(random.IntN(9) - 1))})
		f(sample{g, g, g, longMatrix(random, 1, n, 1)[0], longMatrix(random, 1, n, 3)[0], small(1)})
	}
}

// copied returns a copy with numbers behind the ends of all slices.
func (s sample) copied() sample {
	copyOfList := func(list []api.Int) []api.Int { return copyOf([][]api.Int{list})[0] }
	return sample{copyOf(s.g), copyOf(s.other), copyOf(s.t), copyOfList(s.x), copyOfList(s.y), copyOfList([]api.Int{s.c})[0]}
}

// matrices returns the arguments as matrices.
func (s sample) matrices() [][][]api.Int {
	return [][][]api.Int{s.g, s.other, s.t, {s.x, s.y, {s.c}}}
}

// state returns the text of all the memory that the arguments reach.
func (s sample) state() string {
	text := fmt.Sprint(s)
	for _, m := range s.matrices() {
		text += fmt.Sprint(whole(m))
	}
	return text
}

// results calls every function. It returns the results as matrices, and the text of the others.
func results(s sample) ([][][]api.Int, string) {
	text, formatError := gram.Format(s.g)
	even, evenError := gram.Even(s.g)
	norm, normError := gram.Norm(s.g, s.x)
	inner, innerError := gram.Inner(s.g, s.x, s.y)
	det, detError := gram.Det(s.g)
	changed, changedError := gram.Transform(s.g, s.t)
	content, contentError := gram.Content(s.g)
	multiple, multipleError := gram.Scale(s.g, s.c)
	sum, sumError := gram.OrthogonalSum(s.g, s.other)
	adjugate, last, dualError := gram.Dual(s.g)
	parsed, parseError, line := gram.Parse(text)
	others := fmt.Sprint(gram.Validate(s.g), text, formatError, even, evenError, normError, innerError, detError, changedError, contentError, multipleError, sumError, dualError, parseError, line)
	return [][][]api.Int{{{norm, inner, det, content}}, changed, multiple, sum, adjugate, {{last}}, parsed}, others
}

// R2, for P7.1 to P7.8: arguments are not changed, and results share no memory with them or with each other.
func TestMemory(t *testing.T) {
	forSamples(func(s sample) {
		arguments := s.copied()
		before := arguments.state()
		list, _ := results(arguments)
		if arguments.state() != before {
			t.Errorf("an argument was changed: %v", s)
		}
		if !apart(append(list, arguments.matrices()...)...) {
			t.Errorf("memory is shared: %v", s)
		}
	})
}

// R2: the same matrix, row or number may be given several times.
func TestEqualArguments(t *testing.T) {
	forSamples(func(s sample) {
		s.other, s.t, s.y = s.g, s.g, s.x
		if len(s.g) > 0 && len(s.g[0]) > 0 {
			s.x, s.c = s.g[0], s.g[0][0]
		}
		list, others := results(s)
		wantList, wantOthers := results(s.copied())
		if fmt.Sprint(list) != fmt.Sprint(wantList) || others != wantOthers {
			t.Errorf("results depend on the sharing of memory by the arguments: %v", s)
		}
		if !apart(append(list, s.g)...) {
			t.Errorf("memory is shared: %v", s)
		}
	})
}

// R3: a second call returns the same results, in other memory.
func TestNoState(t *testing.T) {
	forSamples(func(s sample) {
		first, others := results(s)
		second, othersAgain := results(s)
		if fmt.Sprint(first) != fmt.Sprint(second) || others != othersAgain {
			t.Errorf("a second call returns other results: %v", s)
		}
		if !apart(append(first, second...)...) {
			t.Errorf("the results of two calls share memory: %v", s)
		}
	})
}

package matrix_test

import (
	"math/rand/v2"
	"slices"
	"strings"
	"testing"

	"quadform/api"
	"quadform/integer"
	"quadform/matrix"
)

// spare returns a copy of m in whose slices there is room behind the end.
func spare(m [][]api.Int) [][]api.Int {
	out := make([][]api.Int, len(m), len(m)+2)
	for i, row := range m {
		out[i] = make([]api.Int, len(row), len(row)+2)
		for j, a := range row {
			mag := make([]uint32, len(a.Mag), len(a.Mag)+2)
			copy(mag, a.Mag)
			out[i][j] = api.Int{Neg: a.Neg, Mag: mag}
		}
	}
	return out
}

// memory returns a copy of all that belongs to the matrices, as far as their slices reach.
func memory(list ...[][]api.Int) []uint32 {
	var all []uint32
	for _, m := range list {
		for _, row := range m[:cap(m)] {
			all = append(all, uint32(len(row)))
			for _, a := range row[:cap(row)] {
				if a.Neg {
					all = append(all, 1)
				}
				all = append(all, uint32(len(a.Mag)))
				all = append(all, a.Mag[:cap(a.Mag)]...)
			}
		}
	}
	return all
}

// fill overwrites all that belongs to m, as far as its slices reach.
func fill(m [][]api.Int) {
	for _, row := range m[:cap(m)] {
		for j, a := range row[:cap(row)] {
			limbs := a.Mag[:cap(a.Mag)]
			for k := range limbs {
				limbs[k] = 0xdeadbeef
			}
			row[:cap(row)][j] = api.Int{Neg: true, Mag: []uint32{0xbad}}
		}
	}
	for i := range m[:cap(m)] {
		m[:cap(m)][i] = []api.Int{{Mag: []uint32{0xbad}}}
	}
}

// results calls every function with the square matrices a and b, and returns the matrices of which the results consist.
func results(a, b [][]api.Int) [][][]api.Int {
	matrix.Shape(a)
	matrix.Equal(a, b)
	_, fits := matrix.ToInts(a)
	det, _ := matrix.Det(a)
	minor, _ := matrix.Minor(a, []int{0}, []int{len(a) - 1})
	column, _ := matrix.Apply(a, b[0])
	transposed, _ := matrix.Transpose(a)
	sum, _ := matrix.Add(a, b)
	product, _ := matrix.Mul(a, b)
	adjugate, _ := matrix.Adjugate(a)
	inverse, _ := matrix.Inverse(a)
	identity, _ := matrix.Identity(len(a))
	list := [][][]api.Int{{{det}}, {{minor}}, {column}, transposed, sum, product, adjugate, inverse, identity}
	if fits {
		converted, _ := matrix.FromInts(must(matrix.ToInts(a)))
		list = append(list, converted)
	}
	return list
}

// samples returns square matrices: of long and of small numbers, unimodular ones and some of a lower rank.
func samples() [][][]api.Int {
	random := rand.New(rand.NewPCG(1, 2))
	var list [][][]api.Int
	for n := 1; n <= 4; n++ {
		list = append(list, randomMatrix(random, n, n, 3), smallMatrix(random, n, n, 1), unimodular(random, n), dependent(random, n, n-1, 3), of(wide(n, n)))
	}
	return list
}

// forPairs calls f with all pairs of samples of the same size.
func forPairs(f func(a, b [][]api.Int)) {
	list := samples()
	for _, a := range list {
		for _, b := range list {
			if len(a) == len(b) {
				f(a, b)
			}
		}
	}
}

// R2, for P3.1 to P3.6: arguments are not changed, and results share no memory with them or with each other.
func TestMemory(t *testing.T) {
	forPairs(func(a, b [][]api.Int) {
		x, y := spare(a), spare(b)
		before := memory(x, y)
		list := results(x, y)
		if !slices.Equal(memory(x, y), before) {
			t.Fatalf("an argument was changed: %v, %v", a, b)
		}
		for i, m := range list {
			rest := memory(list[i+1:]...)
			fill(m)
			if !slices.Equal(memory(list[i+1:]...), rest) {
				t.Fatalf("results share memory: %v, %v", a, b)
			}
		}
		if !slices.Equal(memory(x, y), before) {
			t.Fatalf("a result shares memory with an argument: %v, %v", a, b)
		}
	})
}

// R2: the rows of a result, and their entries, share no memory with each other.
func TestRowsApart(t *testing.T) {
	forPairs(func(a, b [][]api.Int) {
		for _, m := range results(a, b) {
			for i := range m {
				rest := memory(m[i+1:])
				for j := range m[i] {
					expectEntryApart(t, m[i], j)
				}
				fill([][]api.Int{m[i]})
				if !slices.Equal(memory(m[i+1:]), rest) {
					t.Fatalf("rows share memory: %v, %v", a, b)
				}
			}
		}
	})
}

// expectEntryApart overwrites the limbs of entry j and checks that the entries behind stay.
func expectEntryApart(t *testing.T, row []api.Int, j int) {
	t.Helper()
	rest := memory([][]api.Int{row[j+1:]})
	limbs := row[j].Mag[:cap(row[j].Mag)]
	for k := range limbs {
		limbs[k] = 0xdeadbeef
	}
	if !slices.Equal(memory([][]api.Int{row[j+1:]}), rest) {
		t.Fatalf("entries share memory: %v", row)
	}
}

// R2: the rows of a result of ToInts have no room that belongs to other rows.
func TestToIntsApart(t *testing.T) {
	l := must(matrix.ToInts(of(ints{{1, 2}, {3, 4}, {5, 6}})))
	for i, row := range l {
		whole := row[:cap(row)]
		for j := range whole {
			whole[j] = -1
		}
		for k, later := range l[i+1:] {
			if first := int64(2*(i+1+k) + 1); later[0] != first || later[1] != first+1 {
				t.Fatalf("rows share memory: %v", l)
			}
		}
	}
}

// R2: FromInts does not change its argument, and Minor does not change its lists.
func TestListsAreKept(t *testing.T) {
	l, rows, cols := ints{{1, -2, 3}, {4, 0, 6}}, []int{0, 1}, []int{0, 2}
	m := must(matrix.FromInts(l))
	fill(m)
	must(matrix.Minor(of(l), rows, cols))
	if !slices.EqualFunc(l, ints{{1, -2, 3}, {4, 0, 6}}, slices.Equal) || !slices.Equal(rows, []int{0, 1}) || !slices.Equal(cols, []int{0, 2}) {
		t.Errorf("an argument was changed: %v, %v, %v", l, rows, cols)
	}
}

// text returns the matrices as text.
func text(list [][][]api.Int) string {
	var all strings.Builder
	for _, m := range list {
		for _, row := range m {
			for _, a := range row {
				all.WriteString(integer.Format(a) + " ")
			}
			all.WriteString("\n")
		}
	}
	return all.String()
}

// R2: the same matrix may be both arguments, and the same row may stand in it twice.
func TestEqualArguments(t *testing.T) {
	for _, a := range samples() {
		if text(results(a, a)) != text(results(a, spare(a))) {
			t.Errorf("results depend on the sharing of memory by the arguments: %v", a)
		}
		twice := slices.Repeat([][]api.Int{a[0]}, len(a))
		before := text([][][]api.Int{twice})
		if text(results(twice, twice)) != text(results(spare(twice), spare(twice))) || text([][][]api.Int{twice}) != before {
			t.Errorf("results depend on the sharing of memory by the rows: %v", twice)
		}
	}
}

// R2 and R3: results do not share memory with a state that later calls use.
func TestNoState(t *testing.T) {
	forPairs(func(a, b [][]api.Int) {
		first := results(a, b)
		want := text(first)
		for _, m := range first {
			fill(m)
		}
		if got := text(results(a, b)); got != want {
			t.Fatalf("a second call returns other results: %v, %v", a, b)
		}
	})
}

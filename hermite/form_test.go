package hermite_test

import (
	"math/rand/v2"
	"slices"
	"testing"

	"quadform/api"
	"quadform/hermite"
	"quadform/integer"
	"quadform/matrix"
)

// P5.1
func TestIsForm(t *testing.T) {
	for _, l := range []ints{
		{{0}}, {{1}}, {{7}}, {{1 << 62}}, {{2, 0}}, {{0, 0}}, {{0}, {0}}, {{0}, {3}}, {{3}, {-8}}, {{1, 0}, {3, 6}}, {{1, 0}, {0, 6}}, {{1, 0}, {5, 6}}, {{2, 0}, {-1, 0}}, {{0, 0}, {2, 0}}, {{0, 0}, {0, 0}},
		{{1, 0}, {-9, 0}, {0, 1}}, {{1, 0}, {9, 0}, {4, 5}}, {{1, 0}, {4, 5}, {-7, 8}}, {{0, 0, 0}, {2, 0, 0}, {1, 2, 0}}, {{3, 0, 0}, {0, 2, 0}, {0, 1, 4}}, {{3, 0, 0}, {1, 2, 0}, {3, 3, 4}}, {{1, 0, 0}, {0, 1, 0}}, zeros(16, 16), zeros(1, 16), zeros(16, 1),
	} {
		if !hermite.IsForm(of(l)) {
			t.Errorf("%v is a Hermite form", l)
		}
	}
	for _, l := range []ints{
		{{-1}}, {{-1 << 63}}, {{0, 1}}, {{1, 1}}, {{1, 2}}, {{2, -2}}, {{0, -2}}, {{0}, {-3}}, {{-3}, {3}}, {{1, 0}, {6, 6}}, {{1, 0}, {7, 6}}, {{1, 0}, {-1, 6}}, {{1, 0}, {3, -6}}, {{-1, 0}, {3, 6}}, {{0, 1}, {1, 0}}, {{1, 1}, {0, 1}}, {{0, 0}, {1, 1}}, {{0, 0}, {0, 1}}, {{0, 1}, {0, 0}}, {{1, 0}, {1, 1}},
		{{1, 0}, {0, 0}, {5, 5}}, {{1, 0}, {0, 0}, {-1, 5}}, {{1, 0, 0}, {0, 0, 1}}, {{1, 0, 0}, {0, 0, 1}, {0, 1, 0}}, {{3, 0, 0}, {0, 2, 0}, {4, 1, 4}}, {{3, 0, 0}, {0, 2, 0}, {0, 4, 4}}, {{3, 0, 0}, {0, 2, 0}, {0, -1, 4}}, {{3, 0, 0}, {2, 2, 0}, {0, 1, 4}}, {{3, 0, 1}, {0, 2, 0}, {0, 1, 4}}, {{1, 0, 0}, {0, 0, 0}, {0, 0, 2}}, {{0, 0, 0}, {1, 0, 0}, {0, 0, 1}},
	} {
		if hermite.IsForm(of(l)) {
			t.Errorf("%v is no Hermite form", l)
		}
	}
}

// fitsDefinition reports whether h is a Hermite form with the pivots in these rows.
func fitsDefinition(h [][]api.Int, pivots []int) bool {
	for i, row := range h {
		for c, a := range row {
			n, _ := integer.Int64(a)
			if c >= len(pivots) && n != 0 || c < len(pivots) && (i < pivots[c] && n != 0 || i == pivots[c] && n <= 0) {
				return false
			}
			k := slices.Index(pivots, i)
			if k < 0 || c >= k {
				continue
			}
			if pivot, _ := integer.Int64(row[k]); n < 0 || n >= pivot {
				return false
			}
		}
	}
	return true
}

// P5.1: all small matrices, by all numbers of pivots and all rows for them.
func TestIsFormByDefinition(t *testing.T) {
	check := func(h [][]api.Int) {
		want := false
		for r := 0; r <= min(len(h), len(h[0])); r++ {
			choices(0, len(h), r, func(pivots []int) { want = want || fitsDefinition(h, pivots) })
		}
		if hermite.IsForm(h) != want {
			t.Fatalf("IsForm of %v is not %v", h, want)
		}
		if _, ok := pivotRows(h); ok != want {
			t.Fatalf("the test's own check of %v is wrong", h)
		}
	}
	for _, shape := range [][2]int{{1, 1}, {1, 2}, {2, 1}, {1, 3}, {3, 1}, {2, 2}, {2, 3}, {3, 2}} {
		forTinyMatrices(shape[0], shape[1], -1, 2, check)
	}
	forTinyMatrices(3, 3, 0, 1, check)
}

// P5.1: long entries.
func TestIsFormOfLongEntries(t *testing.T) {
	long := must(integer.Pow(integer.Small(10), 40))
	less := integer.Sub(long, integer.Small(1))
	m := [][]api.Int{{less, small(0)}, {less, long}}
	if !hermite.IsForm(m) {
		t.Error("a Hermite form of long entries is refused")
	}
	for _, entry := range []api.Int{long, integer.Add(long, long), integer.Neg(long), integer.Small(-1)} {
		m[1][0] = entry
		if hermite.IsForm(m) {
			t.Errorf("%v stands beside the pivot", entry)
		}
	}
}

// expectForm checks Form for a valid matrix, and returns the Hermite form.
func expectForm(t *testing.T, m [][]api.Int) [][]api.Int {
	t.Helper()
	h, u, ok := hermite.Form(m)
	if !ok || !isCanonical(h) || !isCanonical(u) {
		t.Fatalf("Form of %v: %v, %v, %v", m, h, u, ok)
	}
	if _, isForm := pivotRows(h); !isForm || !hermite.IsForm(h) {
		t.Fatalf("Form of %v is not a Hermite form: %v", m, h)
	}
	if len(u) != len(m[0]) || !isUnimodular(u) {
		t.Fatalf("Form of %v: the transformation is %v", m, u)
	}
	if !matrix.Equal(h, must(matrix.Mul(m, u))) {
		t.Fatalf("Form of %v: %v is not the product with %v", m, h, u)
	}
	return h
}

// P5.2
func TestFormByHand(t *testing.T) {
	for _, c := range []struct{ m, h ints }{
		{ints{{4, 6}}, ints{{2, 0}}},
		{ints{{2, 1}, {0, 3}}, ints{{1, 0}, {3, 6}}},
		{ints{{0}}, ints{{0}}},
		{ints{{-3}}, ints{{3}}},
		{ints{{-1 << 63}}, nil},
		{ints{{0, 0, -5}}, ints{{5, 0, 0}}},
		{ints{{6, 10, 15}}, ints{{1, 0, 0}}},
		{ints{{-6}, {4}}, ints{{6}, {-4}}},
		{ints{{0}, {-4}, {7}}, ints{{0}, {4}, {-7}}},
		{ints{{0, 2}, {0, 5}}, ints{{2, 0}, {5, 0}}},
		{ints{{2, 4}, {1, 2}}, ints{{2, 0}, {1, 0}}},
		{ints{{1, 0}, {7, 5}}, ints{{1, 0}, {2, 5}}},
		{ints{{1, 0}, {-1, 5}}, ints{{1, 0}, {4, 5}}},
		{ints{{1, 0}, {5, 5}}, ints{{1, 0}, {0, 5}}},
		{ints{{0, 1}, {1, 0}}, ints{{1, 0}, {0, 1}}},
		{ints{{1, 1}, {1, 1}, {0, 5}}, ints{{1, 0}, {1, 0}, {0, 5}}},
		{ints{{3, 0, 0}, {0, 0, 2}, {0, 4, 1}}, ints{{3, 0, 0}, {0, 2, 0}, {0, 1, 4}}},
		{ints{{1, 2, 3}, {4, 5, 6}, {7, 8, 9}}, ints{{1, 0, 0}, {1, 3, 0}, {1, 6, 0}}},
		{ints{{0, 0, 0}, {6, 10, 15}}, ints{{0, 0, 0}, {1, 0, 0}}},
		{zeros(2, 3), zeros(2, 3)},
	} {
		h := expectForm(t, of(c.m))
		if c.h != nil && !matrix.Equal(h, of(c.h)) {
			t.Errorf("Form of %v: %v", c.m, h)
		}
	}
}

// P5.2
func TestForm(t *testing.T) {
	for _, m := range samples() {
		h := expectForm(t, m)
		if again := expectForm(t, h); !matrix.Equal(again, h) {
			t.Errorf("Form of the Hermite form %v: %v", h, again)
		}
	}
	for _, shape := range [][2]int{{1, 2}, {2, 2}, {2, 3}, {3, 2}} {
		forTinyMatrices(shape[0], shape[1], -1, 1, func(m [][]api.Int) { expectForm(t, m) })
	}
	forTinyMatrices(2, 2, -4, 4, func(m [][]api.Int) { expectForm(t, m) })
}

// P5.2: entries of many digits.
func TestFormOfLongEntries(t *testing.T) {
	random := rand.New(rand.NewPCG(5, 6))
	for _, m := range [][][]api.Int{longMatrix(random, 3, 3, 200), longMatrix(random, 2, 4, 100), longMatrix(random, 4, 2, 100), longMatrix(random, 12, 12, 8)} {
		expectForm(t, m)
	}
}

// P5.1 and P5.2
func TestFormNotValid(t *testing.T) {
	for _, l := range notValid() {
		if hermite.IsForm(of(l)) {
			t.Errorf("%v is a Hermite form", l)
		}
		h, u, ok := hermite.Form(of(l))
		expectNone(t, "Form", h, ok)
		expectNone(t, "the transformation of Form", u, ok)
	}
}

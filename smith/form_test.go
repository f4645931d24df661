package smith_test

import (
	"math/big"
	"math/rand/v2"
	"testing"

	"quadform/api"
	"quadform/integer"
	"quadform/matrix"
	"quadform/smith"
)

// P6.1
func TestIsForm(t *testing.T) {
	for _, l := range []ints{
		{{0}}, {{1}}, {{7}}, {{1 << 62}}, {{5, 0}}, {{0, 0}}, {{0}, {0}}, {{3}, {0}}, {{1, 0}, {0, 6}}, {{2, 0}, {0, 2}}, {{2, 0}, {0, 0}}, {{0, 0}, {0, 0}}, {{3, 0, 0}, {0, 6, 0}}, {{3, 0}, {0, 6}, {0, 0}},
		{{1, 0, 0}, {0, 1, 0}, {0, 0, 1}}, {{2, 0, 0}, {0, 4, 0}, {0, 0, 12}}, {{2, 0, 0}, {0, 4, 0}, {0, 0, 0}}, {{2, 0, 0}, {0, 0, 0}, {0, 0, 0}}, zeros(16, 16), zeros(1, 16), zeros(16, 1),
	} {
		if !smith.IsForm(of(l)) {
			t.Errorf("%v is a Smith form", l)
		}
	}
	for _, l := range []ints{
		{{-1}}, {{-1 << 63}}, {{1, 1}}, {{0, 1}}, {{1, 0, -1}}, {{3}, {1}}, {{0}, {3}}, {{0}, {0}, {1}}, {{2, 0}, {0, 3}}, {{6, 0}, {0, 3}}, {{0, 0}, {0, 2}}, {{0, 0}, {0, 1}}, {{2, 0}, {0, -2}}, {{-2, 0}, {0, 2}}, {{-1, 0}, {0, 0}}, {{1, 1}, {0, 1}}, {{1, 0}, {1, 1}}, {{0, 1}, {1, 0}}, {{0, 0}, {1, 0}}, {{0, 1}, {0, 0}},
		{{1, 0, 0}, {0, 1, 1}}, {{1, 0}, {0, 1}, {0, 1}}, {{1, 0}, {0, 1}, {1, 0}}, {{2, 0, 0}, {0, 4, 0}, {0, 0, 6}}, {{2, 0, 0}, {0, 0, 0}, {0, 0, 4}}, {{4, 0, 0}, {0, 2, 0}, {0, 0, 4}}, {{1, 0, 0}, {0, 1, 0}, {0, 0, -1}}, {{1, 0, 0}, {0, 1, 0}, {0, 2, 4}}, {{1, 0, 2}, {0, 1, 0}, {0, 0, 4}},
	} {
		if smith.IsForm(of(l)) {
			t.Errorf("%v is no Smith form", l)
		}
	}
}

// fitsDefinition reports whether l is a Smith form.
func fitsDefinition(l ints) bool {
	for i, row := range l {
		for j, n := range row {
			if i != j && n != 0 || n < 0 {
				return false
			}
			if i != j || i == 0 {
				continue
			}
			isMultiple := false
			for factor := range n + 1 {
				isMultiple = isMultiple || factor*l[i-1][i-1] == n
			}
			if !isMultiple {
				return false
			}
		}
	}
	return true
}

// P6.1: all small matrices.
func TestIsFormByDefinition(t *testing.T) {
	check := func(l ints) {
		if smith.IsForm(of(l)) != fitsDefinition(l) {
			t.Fatalf("IsForm of %v is not %v", l, fitsDefinition(l))
		}
	}
	for _, shape := range [][2]int{{1, 1}, {1, 2}, {2, 1}, {1, 3}, {3, 1}, {2, 2}} {
		forTinyMatrices(shape[0], shape[1], -1, 4, check)
	}
	forTinyMatrices(2, 3, -1, 2, check)
	forTinyMatrices(3, 2, -1, 2, check)
	forTinyMatrices(3, 3, 0, 1, check)
	forTinyMatrices(1, 3, -1, 4, func(l ints) { check(ints{{l[0][0], 0, 0}, {0, l[0][1], 0}, {0, 0, l[0][2]}}) })
}

// P6.1: long entries.
func TestIsFormOfLongEntries(t *testing.T) {
	long := must(integer.Pow(integer.Small(10), 40))
	for _, c := range []struct {
		next api.Int
		want bool
	}{
		{long, true}, {integer.Mul(long, long), true}, {small(0), true},
		{integer.Add(long, small(1)), false}, {integer.Neg(long), false}, {small(1), false}, {integer.Mul(long, must(integer.Pow(small(2), 64))), true}, {integer.Add(integer.Mul(long, long), small(1)), false},
	} {
		m := [][]api.Int{{long, small(0), small(0)}, {small(0), c.next, small(0)}}
		if smith.IsForm(m) != c.want {
			t.Errorf("IsForm of %v is not %v", m, c.want)
		}
		m[0][2] = long
		if smith.IsForm(m) {
			t.Errorf("%v is no Smith form", m)
		}
	}
}

// isSmithForm reports whether d has the shape of a Smith form.
func isSmithForm(d [][]api.Int) bool {
	previous := big.NewInt(1)
	for i, row := range d {
		for j, a := range row {
			n := value(a)
			if i != j && n.Sign() != 0 || n.Sign() < 0 {
				return false
			}
			if i != j {
				continue
			}
			if previous.Sign() == 0 && n.Sign() != 0 || previous.Sign() != 0 && new(big.Int).Rem(n, previous).Sign() != 0 {
				return false
			}
			previous = n
		}
	}
	return true
}

// expectForm checks Form for a valid matrix, and returns the Smith form.
func expectForm(t *testing.T, m [][]api.Int) [][]api.Int {
	t.Helper()
	d, u, v, ok := smith.Form(m)
	if !ok || !isUnimodular(u, len(m)) || !isUnimodular(v, len(m[0])) {
		t.Fatalf("Form of %v: %v, %v, %v, %v", m, d, u, v, ok)
	}
	for _, result := range [][][]api.Int{d, u, v} {
		for _, row := range result {
			if !isCanonical(row) {
				t.Fatalf("Form of %v: %v is not canonical", m, result)
			}
		}
	}
	if !isSmithForm(d) || !smith.IsForm(d) {
		t.Fatalf("Form of %v is not a Smith form: %v", m, d)
	}
	if !matrix.Equal(d, must(matrix.Mul(must(matrix.Mul(u, m)), v))) {
		t.Fatalf("Form of %v: %v is not the product with %v and %v", m, d, u, v)
	}
	return d
}

// P6.2
func TestFormByHand(t *testing.T) {
	for _, c := range []struct{ m, d ints }{
		{ints{{2, 0}, {0, 3}}, ints{{1, 0}, {0, 6}}},
		{ints{{2, 4}, {4, 8}}, ints{{2, 0}, {0, 0}}},
		{ints{{0}}, ints{{0}}},
		{ints{{-3}}, ints{{3}}},
		{ints{{0, -5, 0}}, ints{{5, 0, 0}}},
		{ints{{6, 10, 15}}, ints{{1, 0, 0}}},
		{ints{{0}, {-4}, {6}}, ints{{2}, {0}, {0}}},
		{ints{{4, 0}, {0, 6}}, ints{{2, 0}, {0, 12}}},
		{ints{{6, 0}, {0, 4}}, ints{{2, 0}, {0, 12}}},
		{ints{{0, 0}, {0, 5}}, ints{{5, 0}, {0, 0}}},
		{ints{{6, 0}, {0, 0}, {0, 4}}, ints{{2, 0}, {0, 12}, {0, 0}}},
		{ints{{1, 2, 3}, {4, 5, 6}, {7, 8, 9}}, ints{{1, 0, 0}, {0, 3, 0}, {0, 0, 0}}},
		{ints{{2, 4, 4}, {-6, 6, 12}, {10, 4, 16}}, ints{{2, 0, 0}, {0, 2, 0}, {0, 0, 156}}},
		{ints{{6, 0, 0}, {0, 10, 0}, {0, 0, 15}}, ints{{1, 0, 0}, {0, 30, 0}, {0, 0, 30}}},
		{ints{{2, -1, 0}, {-1, 2, -1}, {0, -1, 2}}, ints{{1, 0, 0}, {0, 1, 0}, {0, 0, 4}}},
		{zeros(2, 3), zeros(2, 3)}, {zeros(16, 16), zeros(16, 16)},
	} {
		if d := expectForm(t, of(c.m)); !matrix.Equal(d, of(c.d)) {
			t.Errorf("Form of %v: %v", c.m, d)
		}
	}
}

// P6.2
func TestForm(t *testing.T) {
	for _, m := range samples() {
		d := expectForm(t, m)
		if again := expectForm(t, d); !matrix.Equal(again, d) {
			t.Errorf("Form of the Smith form %v: %v", d, again)
		}
	}
	for _, shape := range [][2]int{{1, 2}, {2, 1}, {2, 3}, {3, 2}} {
		forTinyMatrices(shape[0], shape[1], -1, 1, func(l ints) { expectForm(t, of(l)) })
	}
	forTinyMatrices(2, 2, -4, 4, func(l ints) { expectForm(t, of(l)) })
	forTinyMatrices(1, 3, 0, 12, func(l ints) { expectForm(t, of(ints{{l[0][0], 0, 0}, {0, l[0][1], 0}, {0, 0, l[0][2]}})) })
}

// P6.2: entries of many digits. Long numbers on a diagonal have long factors that are not 1.
func TestFormOfLongEntries(t *testing.T) {
	random := rand.New(rand.NewPCG(5, 6))
	for _, m := range [][][]api.Int{
		longMatrix(random, 3, 3, 200), longMatrix(random, 2, 4, 100), longMatrix(random, 4, 2, 100), longMatrix(random, 12, 12, 8),
		diagonal(4, 4, longMatrix(random, 1, 4, 100)[0]), diagonal(12, 12, longMatrix(random, 1, 12, 8)[0]), between(random, diagonal(5, 5, longMatrix(random, 1, 5, 20)[0])),
	} {
		expectForm(t, m)
	}
}

// P6.1 and P6.2
func TestFormNotValid(t *testing.T) {
	for _, l := range notValid() {
		if smith.IsForm(of(l)) {
			t.Errorf("%v is a Smith form", l)
		}
		d, u, v, ok := smith.Form(of(l))
		expectNone(t, "Form", d, ok)
		expectNone(t, "the left transformation of Form", u, ok)
		expectNone(t, "the right transformation of Form", v, ok)
	}
}

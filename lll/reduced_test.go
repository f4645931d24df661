package lll_test

import (
	"math"
	"math/rand/v2"
	"slices"
	"testing"

	"quadform/api"
	"quadform/lll"
)

// expectIsReduced compares IsReduced with the definition, and returns the answer.
func expectIsReduced(t *testing.T, h ints) bool {
	t.Helper()
	want := reducedByDefinition(h)
	if lll.IsReduced(h) != want {
		t.Errorf("IsReduced of %v is not %v", h, want)
	}
	return want
}

// forSymmetric calls f with all symmetric matrices of n rows with these bounds for the entries on the diagonal and beside it.
func forSymmetric(n int, least, greatest, beside int64, f func(l ints)) {
	l := zeros(n, n)
	var fill func(i, j int)
	fill = func(i, j int) {
		switch {
		case i == n:
			f(l)
		case i == j:
			for l[i][i] = least; l[i][i] <= greatest; l[i][i]++ {
				fill(i+1, 0)
			}
		default:
			for entry := -beside; entry <= beside; entry++ {
				l[i][j], l[j][i] = entry, entry
				fill(i, j+1)
			}
		}
	}
	fill(0, 0)
}

// P8.1
func TestIsReducedOfTinyMatrices(t *testing.T) {
	for _, c := range []struct {
		n                       int
		least, greatest, beside int64
		reduced                 int // matrices that are reduced
	}{{1, -3, 20, 0, 20}, {2, -1, 12, 7, 543}, {3, 0, 4, 2, 558}} {
		count := 0
		forSymmetric(c.n, c.least, c.greatest, c.beside, func(l ints) {
			if expectIsReduced(t, l) {
				count++
			}
		})
		if count != c.reduced {
			t.Errorf("%d matrices of %d rows are reduced", count, c.n)
		}
	}
}

// P8.1: the conditions 3 and 4, each with equality and just beyond it.
func TestIsReducedByHand(t *testing.T) {
	for _, h := range []ints{
		{{1}}, {{10000}}, {{1, 0}, {0, 1}}, {{2, 1}, {1, 2}}, {{2, -1}, {-1, 2}}, {{4, 0}, {0, 3}}, {{4, 2}, {2, 3}}, {{4, -2}, {-2, 3}}, {{4, 1}, {1, 4}}, {{100, 50}, {50, 75}}, {{8, 4}, {4, 6}}, {{5, 2}, {2, 4}},
		{{1, 0, 0}, {0, 2, 1}, {0, 1, 2}}, {{1, 0, 0}, {0, 4, -2}, {0, -2, 3}}, {{2, 0, 1}, {0, 2, 1}, {1, 1, 2}}, {{2, 0, 0}, {0, 4, 2}, {0, 2, 3}}, {{2, 1, 1}, {1, 2, 1}, {1, 1, 2}}, {{4, 2, 2}, {2, 4, 2}, {2, 2, 4}}, {{2, 1, -1}, {1, 2, 0}, {-1, 0, 2}},
		unit(8), diagonal(1, 1, 1, 1, 1, 1, 1, 10000), diagonal(4, 3, 3, 3, 3, 3, 3, 3), multiple(3, unit(8)),
	} {
		if !lll.IsReduced(h) || !reducedByDefinition(h) {
			t.Errorf("%v is not reduced", h)
		}
	}
	for _, h := range []ints{
		{{0}}, {{-1}}, {{10001}}, {{1, 1}, {1, 2}}, {{5, 0}, {0, 1}}, {{4, 0}, {0, 2}}, {{4, -2}, {-2, 2}}, {{4, 3}, {3, 5}}, {{5, 3}, {3, 5}}, {{5, -3}, {-3, 5}}, {{100, 50}, {50, 74}}, {{100, 51}, {51, 76}}, {{8, 4}, {4, 5}}, {{1, 0}, {0, 0}}, {{1, 0}, {0, -1}}, {{-1, 0}, {0, -1}}, {{0, 0}, {0, 1}}, {{0, 1}, {1, 0}},
		{{2, 1, 0}, {1, 2, 1}, {0, 1, 2}}, {{1, 0, 0}, {0, 4, 2}, {0, 2, 2}}, {{1, 0, 0}, {0, 3, 2}, {0, 2, 4}}, {{1, 0, 1}, {0, 1, 0}, {1, 0, 2}}, {{1, 0, 0}, {0, 1, 1}, {0, 1, 2}}, {{2, 0, 1}, {0, 2, 2}, {1, 2, 4}}, {{2, 1, 1}, {1, 2, 2}, {1, 2, 4}}, {{1, 0, 0}, {0, -1, 0}, {0, 0, -1}},
		diagonal(1, 1, 1, 1, 1, 1, 1, 10001), diagonal(4, 3, 2, 3, 3, 3, 3, 3), diagonal(1, 1, 1, 1, 1, 1, 4, 2), multiple(4, unit(8)),
	} {
		if lll.IsReduced(h) || reducedByDefinition(h) {
			t.Errorf("%v is reduced", h)
		}
	}
}

// P8.1: condition 3 at each place of a matrix of 8 rows. All other conditions hold.
func TestIsReducedWithEachLambda(t *testing.T) {
	for i := range api.MaxDim {
		for j := range i {
			for entry := int64(-2); entry <= 2; entry++ {
				h := diagonal(slices.Concat([]int64{2, 2, 2, 2, 2, 2, 2}[:i], []int64{5, 4, 3, 3, 3, 3, 3}[:api.MaxDim-i])...)
				h[i][j], h[j][i] = entry, entry
				if got, want := expectIsReduced(t, h), entry*entry < 4; got != want {
					t.Errorf("%v: %v", h, got)
				}
			}
		}
	}
}

// P8.1: condition 4 at each place of a matrix of 8 rows. All other conditions hold.
func TestIsReducedWithEachNorm(t *testing.T) {
	for i := 1; i < api.MaxDim; i++ {
		for _, c := range []struct {
			beside, norm int64
			want         bool
		}{{0, 2, false}, {0, 3, true}, {1, 2, false}, {1, 3, true}, {2, 2, false}, {2, 3, true}, {-2, 2, false}, {-2, 3, true}} {
			h := unit(api.MaxDim)
			h[i-1][i-1], h[i][i] = 4, c.norm
			h[i][i-1], h[i-1][i] = c.beside, c.beside
			for k := i + 1; k < api.MaxDim; k++ {
				h[k][k] = 3
			}
			if got := expectIsReduced(t, h); got != c.want {
				t.Errorf("%v: %v", h, got)
			}
		}
	}
}

// P8.1: the greatest determinant, and one more.
func TestIsReducedOfGreatestDet(t *testing.T) {
	for n := 1; n <= api.MaxDim; n++ {
		for det := int64(api.MaxDet - 2); det <= api.MaxDet+2; det++ {
			h := unit(n)
			h[n-1][n-1] = det
			if got := expectIsReduced(t, h); got != (det <= api.MaxDet) {
				t.Errorf("%v: %v", h, got)
			}
		}
	}
	for _, h := range []ints{multiple(100, unit(2)), multiple(10, unit(4)), diagonal(73, 137), diagonal(10, 10, 10, 11), {{100, 1}, {1, 100}}, {{100, 1}, {1, 101}}, {{100, 10}, {10, 101}}, {{100, -11}, {-11, 101}}} {
		expectIsReduced(t, h)
	}
}

// P8.1: reduced forms of all dimensions, also with entries that are changed and with vectors that are exchanged.
func TestIsReducedOfChangedForms(t *testing.T) {
	random := rand.New(rand.NewPCG(3, 4))
	answers := map[bool]int{}
	for _, g := range forms() {
		h, _, _ := lll.Reduce(intsOf(g))
		if !expectIsReduced(t, h) {
			t.Errorf("%v is not reduced", h)
		}
		for range 4 {
			i, j := random.IntN(len(h)), random.IntN(len(h))
			h[i][j] += 2*random.Int64N(2) - 1
			h[j][i] = h[i][j]
			answers[expectIsReduced(t, h)]++
			h[i], h[j] = h[j], h[i]
			for _, row := range h {
				row[i], row[j] = row[j], row[i]
			}
			answers[expectIsReduced(t, h)]++
			h[i][j]++
			answers[expectIsReduced(t, h)]++
		}
	}
	if answers[true] < 50 || answers[false] < 50 {
		t.Errorf("the answers are %v", answers)
	}
}

// P8.1: entries of any size.
func TestIsReducedOfLongEntries(t *testing.T) {
	var long []int64
	for exponent := 14; exponent < 64; exponent++ {
		power := int64(1) << exponent
		long = append(long, power, power+1, power-1, -power, -power+1, -power-1)
	}
	for _, n := range []int{1, 2, 3, api.MaxDim} {
		for _, entry := range long {
			i, j := n-1, (n-1)/2
			for _, h := range []ints{unit(n), multiple(3, unit(n)), multiple(entry, unit(n))} {
				h[i][j], h[j][i] = entry, entry
				if lll.IsReduced(h) {
					t.Errorf("%v is reduced", h)
				}
			}
			h := multiple(entry, unit(n))
			h[0][0] = 1
			if n > 1 && lll.IsReduced(h) {
				t.Errorf("%v is reduced", h)
			}
		}
	}
	for _, h := range []ints{{{math.MinInt64}}, {{math.MaxInt64}}, {{math.MaxInt64, math.MaxInt64}, {math.MaxInt64, math.MaxInt64}}, {{math.MinInt64, math.MinInt64}, {math.MinInt64, math.MinInt64}}, {{1, math.MinInt64}, {math.MinInt64, 1}}, {{1 << 62, 1 << 61}, {1 << 61, 1 << 62}}, {{1 << 32, 0}, {0, 1<<32 + 1}}, diagonal(1<<16, 1<<16, 1<<16, 1<<16), diagonal(1<<21, 1<<21, 1<<22)} {
		if lll.IsReduced(h) {
			t.Errorf("%v is reduced", h)
		}
	}
}

// P8.1: determinants beyond 2^64 that are from 1 to MaxDet modulo 2^64.
func TestIsReducedModuloWord(t *testing.T) {
	for _, entries := range [][]int64{
		{205682317, 306039269, 995277328}, {295827349, 499956909, 655840627}, {101452427965, 705668806416}, {117356972069, 1010070175873}, {25318965573, 338786984387}, {1<<33 + 1, inverse(1<<33 + 1)}, {1<<40 + 1, inverse(1<<40 + 1)}, {1<<17 - 1, inverse(1<<17 - 1)},
	} {
		for n := len(entries); n <= api.MaxDim; n++ {
			h := unit(n)
			product := int64(1)
			for i, entry := range entries {
				h[n-len(entries)+i][n-len(entries)+i] = entry
				product *= entry
			}
			if product < 1 || product > api.MaxDet || lll.IsReduced(h) {
				t.Errorf("%v is reduced; the determinant is %d modulo 2^64", h, product)
			}
		}
	}
}

// inverse returns the number whose product with the odd number a is 1 modulo 2^64.
func inverse(a int64) int64 {
	x := a
	for range 6 {
		x *= 2 - a*x
	}
	return x
}

// P8.1: condition 1.
func TestIsReducedOfShapes(t *testing.T) {
	for _, h := range []ints{nil, {}, {{}}, {nil}, {{}, {}}, {{1, 0}}, {{1}, {0}}, {{1, 0}, {0}}, {{1}, {0, 1}}, {{1, 0}, nil}, {{1, 0}, {0, 1}, {0, 0}}, {{1, 0, 0}, {0, 1, 0}}, {{1, 0}, {0, 1, 0}}, {{1, 0, 0}, {0, 1}}, unit(9), unit(16), unit(17), unit(100), zeros(9, 8), zeros(8, 9), zeros(1000, 0), unit(9)[:8], append(unit(8), make([]int64, 8)), append(unit(8), nil)} {
		if lll.IsReduced(h) {
			t.Errorf("%v is reduced", h)
		}
	}
	for n := 2; n <= api.MaxDim; n++ {
		for i := range n {
			for j := range n {
				h := multiple(2, unit(n))
				h[i][j]++
				if i != j && expectIsReduced(t, h) {
					t.Errorf("%v is reduced", h)
				}
				h = unit(n)
				h[i] = h[i][:j]
				if lll.IsReduced(h) {
					t.Errorf("%v is reduced", h)
				}
			}
		}
	}
}

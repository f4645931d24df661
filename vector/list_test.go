package vector_test

import (
	"math"
	"math/big"
	"math/rand/v2"
	"slices"
	"testing"

	"quadform/api"
	"quadform/vector"
)

// P9.3
func TestCompare(t *testing.T) {
	// A list in ascending order.
	lists := ints{nil, {math.MinInt64}, {math.MinInt64, math.MaxInt64}, {math.MinInt64 + 1}, {-7, 5}, {-1}, {-1, -1}, {-1, 0}, {-1, 0, 0}, {-1, 0, 1}, {-1, 1}, {0}, {0, math.MinInt64}, {0, -5}, {0, 0}, {0, 0, -1}, {0, 0, 0}, {0, 0, 0, -9}, {0, 1}, {0, 1, -1}, {0, math.MaxInt64}, {1}, {1, -100}, {1, 2}, {1, 3}, {2}, {2, 0}, {10}, {math.MaxInt64}, {math.MaxInt64, math.MinInt64}}
	for i, x := range lists {
		for j, y := range lists {
			want := 0
			if i < j {
				want = -1
			} else if i > j {
				want = 1
			}
			if got := vector.Compare(x, slices.Clone(y)); got != want {
				t.Errorf("Compare of %v and %v: %d", x, y, got)
			}
		}
	}
	if vector.Compare([]int64{}, nil) != 0 || vector.Compare(nil, []int64{}) != 0 {
		t.Error("an empty list and nil are not equal")
	}
}

// P9.3: lists that differ in one place, of all lengths up to 40.
func TestCompareOfLongLists(t *testing.T) {
	random := rand.New(rand.NewPCG(9, 10))
	for length := range 40 {
		x := vectorOf(random, length)
		for place := range length {
			y := slices.Clone(x)
			y[place]++
			if place+1 < length {
				y[place+1] -= 5
			}
			if vector.Compare(x, y) != -1 || vector.Compare(y, x) != 1 || vector.Compare(x[:place], y) != -1 || vector.Compare(y, x[:place]) != 1 {
				t.Errorf("Compare of %v and %v", x, y)
			}
		}
	}
}

// expectSign checks CanonicalSign; want is nil if there is no value.
func expectSign(t *testing.T, x, want []int64) {
	t.Helper()
	if got, ok := vector.CanonicalSign(x); !slices.Equal(got, want) || ok != (want != nil) {
		t.Errorf("CanonicalSign of %v: %v %v, want %v", x, got, ok, want)
	}
}

// P9.4
func TestCanonicalSign(t *testing.T) {
	random := rand.New(rand.NewPCG(11, 12))
	for length := 1; length <= 20; length++ {
		for place := range length {
			x := vectorOf(random, length)
			clear(x[:place])
			x[place] = 1 + random.Int64N(top)
			expectSign(t, x, slices.Clone(x))
			expectSign(t, negative(x), x)
			expectSign(t, one(length, place, top), one(length, place, top))
			expectSign(t, one(length, place, -top), one(length, place, top))
			for _, wrong := range []int64{top + 1, -top - 1, 2 * top, -2 * top, 1 << 62, math.MaxInt64, math.MinInt64} {
				y := slices.Clone(x)
				y[place] = wrong
				expectSign(t, y, nil)
				expectSign(t, one(length, place, wrong), nil)
				y = slices.Clone(x)
				y[random.IntN(length)] = wrong
				expectSign(t, y, nil)
			}
		}
		expectSign(t, make([]int64, length), nil)
	}
	expectSign(t, nil, nil)
	expectSign(t, []int64{}, nil)
	expectSign(t, []int64{0, -3, 1}, []int64{0, 3, -1})
	expectSign(t, []int64{0, 3, -1}, []int64{0, 3, -1})
	expectSign(t, []int64{-top, -top}, []int64{top, top})
	expectSign(t, []int64{top, -top}, []int64{top, -top})
}

// P9.5
func TestContent(t *testing.T) {
	for _, c := range []struct {
		x    []int64
		want uint64
	}{
		{nil, 0}, {[]int64{}, 0}, {[]int64{0}, 0}, {[]int64{0, 0, 0}, 0}, {[]int64{1}, 1}, {[]int64{-1}, 1}, {[]int64{5}, 5}, {[]int64{-5}, 5}, {[]int64{0, -5}, 5}, {[]int64{-5, 0}, 5}, {[]int64{12, -18}, 6}, {[]int64{-18, 12}, 6}, {[]int64{6, 10, 15}, 1}, {[]int64{30, 42, 70}, 2}, {[]int64{4, 4, 4, 4}, 4}, {[]int64{4, 2}, 2}, {[]int64{2, 4}, 2},
		{[]int64{math.MinInt64}, 1 << 63}, {[]int64{math.MinInt64, math.MinInt64, 0}, 1 << 63}, {[]int64{0, math.MinInt64}, 1 << 63}, {[]int64{math.MinInt64, 1 << 62}, 1 << 62}, {[]int64{math.MinInt64, 12}, 4}, {[]int64{math.MinInt64, math.MaxInt64}, 1}, {[]int64{math.MaxInt64, -math.MaxInt64}, math.MaxInt64}, {[]int64{top + 1, 0}, 1<<40 + 1},
	} {
		if got := vector.Content(c.x); got != c.want {
			t.Errorf("Content of %v: %d, want %d", c.x, got, c.want)
		}
	}
	random := rand.New(rand.NewPCG(13, 14))
	for range 3000 {
		want, x := new(big.Int), make([]int64, random.IntN(12))
		factor := coordinate(random) % (1 << 20)
		for i := range x {
			x[i] = factor * (coordinate(random) % (1 << 40))
			want.GCD(nil, nil, want, new(big.Int).Abs(big.NewInt(x[i])))
		}
		if got := vector.Content(x); got != want.Uint64() {
			t.Errorf("Content of %v: %d, want %d", x, got, want)
		}
	}
}

// expectSorted checks SortUnique for vectors with norms: the result is in order, and it has the same vectors up to sign.
func expectSorted(t *testing.T, h, l ints) {
	t.Helper()
	list, ok := vector.SortUnique(h, l)
	if !ok {
		t.Errorf("SortUnique of %v, %v has no value", h, l)
	}
	for i, x := range list[1:] {
		before, norm := product(h, list[i], list[i]), product(h, x, x)
		if order := before.Cmp(norm); order > 0 || order == 0 && slices.Compare(list[i], x) >= 0 {
			t.Errorf("SortUnique of %v, %v: %v is behind %v", h, l, x, list[i])
		}
	}
	contains := func(list ints, x []int64) bool {
		return slices.ContainsFunc(list, func(y []int64) bool { return slices.Equal(x, y) })
	}
	for _, x := range list {
		first := slices.IndexFunc(x, func(n int64) bool { return n != 0 })
		if first < 0 || x[first] < 0 || !contains(l, x) && !contains(l, negative(x)) {
			t.Errorf("SortUnique of %v, %v contains %v", h, l, x)
		}
	}
	for _, x := range l {
		if !contains(list, x) && !contains(list, negative(x)) {
			t.Errorf("SortUnique of %v, %v does not contain %v", h, l, x)
		}
	}
}

// P9.6
func TestSortUnique(t *testing.T) {
	random := rand.New(rand.NewPCG(15, 16))
	for _, h := range forms() {
		for _, size := range []int64{1, 2, 1 << 20} {
			var l ints
			for range 1 + random.IntN(60) {
				x := shortVector(random, len(h), size)
				x[random.IntN(len(h))] = 1
				l = append(l, x)
				for random.IntN(3) == 0 {
					l = append(l, l[random.IntN(len(l))], negative(l[random.IntN(len(l))]))
				}
			}
			expectSorted(t, h, l)
		}
	}
}

// P9.6: all vectors with coordinates from -2 to 2, in several orders.
func TestSortUniqueOfManyVectors(t *testing.T) {
	random := rand.New(rand.NewPCG(17, 18))
	for _, h := range []ints{unit(3), diagonal(3, 3, 3), {{2, 1, 1}, {1, 2, 1}, {1, 1, 2}}} {
		var l ints
		for code := range 125 {
			if x := []int64{int64(code/25) - 2, int64(code/5%5) - 2, int64(code%5) - 2}; code != 62 {
				l = append(l, x)
			}
		}
		expectSorted(t, h, l)
		first, _ := vector.SortUnique(h, l)
		if len(first) != 62 {
			t.Errorf("SortUnique returns %d vectors", len(first))
		}
		for range 10 {
			random.Shuffle(len(l), func(i, j int) { l[i], l[j] = l[j], l[i] })
			if again, ok := vector.SortUnique(h, l); !ok || !sameLists(first, again) {
				t.Errorf("SortUnique depends on the order: %v", again)
			}
		}
	}
}

// P9.6: the examples of the chapter, and lists of one vector or none.
func TestSortUniqueExamples(t *testing.T) {
	for _, c := range []struct{ h, l, want ints }{
		{hexagon(), ints{{-1, 1}, {0, 2}, {1, -1}, {1, 0}}, ints{{1, -1}, {1, 0}, {0, 2}}},
		{hexagon(), nil, nil}, {hexagon(), ints{}, nil}, {hexagon(), ints{{0, -1}}, ints{{0, 1}}},
		{unit(2), ints{{1, 1}, {-1, 1}, {0, -1}, {1, 0}, {0, 1}, {-1, -1}}, ints{{0, 1}, {1, 0}, {1, -1}, {1, 1}}},
		{diagonal(1, 10000), ints{{0, 1}, {100, 0}, {99, 0}, {-101, 0}, {-100, 0}}, ints{{99, 0}, {0, 1}, {100, 0}, {101, 0}}},
		{ints{{1}}, ints{{1 << 31}, {-1 << 31}, {-1}}, ints{{1}, {1 << 31}}},
		{diagonal(1, 1), ints{{1 << 31, 0}, {-1 << 30, 1 << 30}, {0, -1 << 31}}, ints{{1 << 30, -1 << 30}, {0, 1 << 31}, {1 << 31, 0}}},
	} {
		if got, ok := vector.SortUnique(c.h, c.l); !ok || !sameLists(got, c.want) {
			t.Errorf("SortUnique of %v, %v: %v %v, want %v", c.h, c.l, got, ok, c.want)
		}
	}
}

// expectUnsorted checks that SortUnique has no value.
func expectUnsorted(t *testing.T, h, l ints) {
	t.Helper()
	if got, ok := vector.SortUnique(h, l); ok || len(got) > 0 {
		t.Errorf("SortUnique of %v, %v: %v %v", h, l, got, ok)
	}
}

// P9.6: each element may be the wrong one.
func TestSortUniqueErrors(t *testing.T) {
	for _, h := range forms() {
		n := len(h)
		wrong := ints{nil, make([]int64, n), make([]int64, n-1), make([]int64, n+1), one(n+1, 0, 1), one(n, n-1, top+1), one(n, 0, -top-1), one(n, 0, math.MinInt64), one(n, n-1, 1<<31+1), one(n, 0, -top)}
		if n > 1 {
			wrong = append(wrong, one(n-1, 0, 1))
		}
		for _, x := range wrong {
			expectUnsorted(t, h, ints{x})
			for place := range 3 {
				l := ints{one(n, 0, 1), one(n, n-1, -2), one(n, 0, 1)}
				l[place] = x
				expectUnsorted(t, h, l)
			}
		}
	}
	for _, h := range notReduced() {
		for _, l := range []ints{nil, {nil}, {{1}}, {{1, 0}}, {make([]int64, len(h))}, {slices.Repeat([]int64{1}, len(h))}} {
			expectUnsorted(t, h, l)
		}
	}
	expectUnsorted(t, unit(2), ints{{1 << 31, 1}})
	expectUnsorted(t, unit(api.MaxDim), ints{slices.Repeat([]int64{1 << 30}, 8)})
	expectUnsorted(t, ints{{1}}, ints{{1 << 32}})
}

package vector_test

import (
	"math"
	"math/big"
	"math/rand/v2"
	"slices"
	"testing"

	"quadform/api"
	"quadform/vector"
)

// expectInner compares Inner, in both orders, with the definition for two vectors of a reduced form. It returns whether there is a value.
func expectInner(t *testing.T, h ints, x, y []int64) bool {
	t.Helper()
	exact := product(h, x, y)
	want, has := int64(0), isLimited(exact)
	if has {
		want = exact.Int64()
	}
	n, ok := vector.Inner(h, x, y)
	again, okAgain := vector.Inner(h, y, x)
	if n != want || ok != has || again != want || okAgain != has {
		t.Errorf("Inner of %v, %v, %v: %d %v and %d %v, want %d %v", h, x, y, n, ok, again, okAgain, want, has)
	}
	return has
}

// expectNorm compares Norm with the definition for a vector of a reduced form. It returns whether there is a value.
func expectNorm(t *testing.T, h ints, x []int64) bool {
	t.Helper()
	exact := product(h, x, x)
	want, has := int64(0), isLimited(exact)
	if has {
		want = exact.Int64()
	}
	if n, ok := vector.Norm(h, x); n != want || ok != has {
		t.Errorf("Norm of %v, %v: %d %v, want %d %v", h, x, n, ok, want, has)
	}
	return has
}

// expectNone checks that x and y have no inner product and that one that is wrong has no norm.
func expectNone(t *testing.T, h ints, x, y []int64) {
	t.Helper()
	for _, c := range [][2][]int64{{x, y}, {y, x}, {x, x}} {
		if n, ok := vector.Inner(h, c[0], c[1]); n != 0 || ok {
			t.Errorf("Inner of %v, %v: %d %v", h, c, n, ok)
		}
	}
	if n, ok := vector.Norm(h, x); n != 0 || ok {
		t.Errorf("Norm of %v, %v: %d %v", h, x, n, ok)
	}
	if vector.Valid(h, x) {
		t.Errorf("%v is a vector of %v", x, h)
	}
}

// P9.1
func TestValid(t *testing.T) {
	random := rand.New(rand.NewPCG(1, 2))
	for _, h := range forms() {
		n := len(h)
		if !vector.Valid(h, make([]int64, n)) {
			t.Errorf("zero is no vector of %v", h)
		}
		for range 20 {
			if x := vectorOf(random, n); !vector.Valid(h, x) {
				t.Errorf("%v is no vector of %v", x, h)
			}
		}
		for place := range n {
			for _, c := range []int64{-top, -top + 1, top - 1, top} {
				if !vector.Valid(h, one(n, place, c)) {
					t.Errorf("%v is no vector of %v", one(n, place, c), h)
				}
			}
		}
	}
}

// P9.1, P9.2: lists that are no vectors, beside one that is.
func TestNoVectors(t *testing.T) {
	for _, h := range forms() {
		n := len(h)
		for _, right := range [][]int64{make([]int64, n), one(n, 0, 1), one(n, n-1, -top)} {
			for place := range n {
				for _, c := range []int64{-top - 1, top + 1, -2 * top, 2 * top, 1 << 62, -1 << 62, math.MaxInt64, math.MinInt64} {
					expectNone(t, h, one(n, place, c), right)
				}
			}
			for length := range 20 {
				if length != n {
					expectNone(t, h, make([]int64, length), right)
				}
			}
			expectNone(t, h, nil, right)
		}
	}
}

// P9.1, P9.2: forms that are not reduced.
func TestNotReducedForms(t *testing.T) {
	for _, h := range notReduced() {
		lists := ints{nil, {1}, {1, 0}, {0, 1}, {1, 1}, make([]int64, len(h)), slices.Repeat([]int64{1}, len(h))}
		for _, x := range lists {
			for _, y := range lists {
				expectNone(t, h, x, y)
			}
		}
	}
}

// P9.2
func TestInnerOfShortVectors(t *testing.T) {
	random := rand.New(rand.NewPCG(3, 4))
	for _, h := range forms() {
		n := len(h)
		for range 30 {
			x, y := shortVector(random, n, 100), shortVector(random, n, 100)
			if !expectInner(t, h, x, y) || !expectNorm(t, h, x) {
				t.Errorf("%v and %v have no inner product for %v", x, y, h)
			}
		}
		for i := range n {
			for j := range n {
				if value, ok := vector.Inner(h, one(n, i, 1), one(n, j, 1)); value != h[i][j] || !ok {
					t.Errorf("Inner of the basis vectors %d and %d of %v: %d", i, j, h, value)
				}
			}
		}
	}
}

// P9.2: coordinates of all sizes, so that norms and inner products have up to 100 bits.
func TestInnerOfVectors(t *testing.T) {
	random := rand.New(rand.NewPCG(5, 6))
	with, without := 0, 0
	for _, h := range forms() {
		for range 100 {
			x, y := vectorOf(random, len(h)), vectorOf(random, len(h))
			for _, has := range []bool{expectInner(t, h, x, y), expectNorm(t, h, x)} {
				if has {
					with++
				} else {
					without++
				}
			}
		}
	}
	if with < 1000 || without < 1000 {
		t.Errorf("%d with and %d without a value", with, without)
	}
}

// P9.2: the greatest coordinates, with all signs.
func TestInnerOfGreatestVectors(t *testing.T) {
	for _, h := range forms() {
		n := len(h)
		for signs := range 1 << n {
			x, y := make([]int64, n), make([]int64, n)
			for i := range n {
				x[i], y[i] = top, top-1
				if signs>>i&1 == 1 {
					x[i] = -top
				}
			}
			expectInner(t, h, x, y)
			if expectNorm(t, h, x) {
				t.Errorf("%v has a norm for %v", x, h)
			}
		}
	}
}

// almostOrthogonal returns a vector with coordinates of up to 40 bits in two places, whose inner product with x is short for its length.
func almostOrthogonal(random *rand.Rand, h ints, x []int64) []int64 {
	n := len(h)
	i := random.IntN(n)
	j := (i + 1 + random.IntN(n-1)) % n
	first, second := product(h, one(n, i, 1), x), product(h, one(n, j, 1), x)
	shift := uint(max(first.BitLen(), second.BitLen(), 40) - 40)
	y := make([]int64, n)
	y[i], y[j] = second.Rsh(second, shift).Int64(), -first.Rsh(first, shift).Int64()
	return y
}

// P9.2: an inner product of two long vectors can be short, though the products of their coordinates have 80 bits.
func TestInnerOfLongVectors(t *testing.T) {
	random := rand.New(rand.NewPCG(7, 8))
	with := 0
	for _, h := range forms() {
		for range 50 {
			x := vectorOf(random, len(h))
			if len(h) > 1 && expectInner(t, h, x, almostOrthogonal(random, h, x)) {
				with++
			}
		}
	}
	if with < 1000 {
		t.Errorf("only %d have an inner product", with)
	}
	for _, c := range []struct {
		h       ints
		x, y    []int64
		product int64
	}{
		{unit(2), []int64{top, top - 1}, []int64{top - 1, -top}, 0},
		{unit(2), []int64{top, top}, []int64{top, -top + 1}, top},
		{unit(2), []int64{top, top}, []int64{top, -top + 1<<22}, api.MaxNorm},
		{unit(2), []int64{top, top}, []int64{-top, top - 1<<22}, -api.MaxNorm},
		{unit(3), []int64{top, top, 1}, []int64{top, -top, 7}, 7},
		{hexagon(), []int64{top, -top}, []int64{top, top}, 0},
		{hexagon(), []int64{top, -top}, []int64{top, top - 1}, top},
		{diagonal(1, 10000), []int64{10000, top}, []int64{top, -1}, 0},
	} {
		if n, ok := vector.Inner(c.h, c.x, c.y); n != c.product || !ok {
			t.Errorf("Inner of %v, %v, %v: %d %v, want %d", c.h, c.x, c.y, n, ok, c.product)
		}
	}
}

// P9.2: norms and inner products at the limits, and next to multiples of 2^64.
func TestLimits(t *testing.T) {
	for n := 2; n <= api.MaxDim; n++ {
		h := unit(n)
		for _, high := range []int64{0, 1, 2, 3, 4, 5, 8, 12, 1 << 17, 1<<18 - 1} {
			for _, low := range []int64{-2, -1, 0, 1, 2} {
				// x has the inner product 2^62 high + low with y.
				x, y := make([]int64, n), make([]int64, n)
				x[0], y[0] = 1<<40, high<<22
				x[n-1], y[n-1] = 1, low
				want := new(big.Int).Lsh(big.NewInt(high), 62)
				if product(h, x, y).Cmp(want.Add(want, big.NewInt(low))) != 0 {
					t.Fatalf("%v and %v are wrong", x, y)
				}
				if expectInner(t, h, x, y) != (high == 0 || high == 1 && low <= 0) {
					t.Errorf("Inner of %v and %v", x, y)
				}
				expectInner(t, h, negative(x), y)
				expectInner(t, h, x, negative(y))
				expectInner(t, h, negative(x), negative(y))
			}
		}
		for _, exponent := range []int{30, 31, 32, 33, 39, 40} {
			for _, low := range []int64{0, 1, 2} {
				x := one(n, 0, 1<<exponent)
				x[n-1] = low
				if expectNorm(t, h, x) != (exponent < 31 || exponent == 31 && low == 0) {
					t.Errorf("Norm of %v", x)
				}
			}
		}
	}
	for _, c := range []struct {
		h    ints
		x    []int64
		norm int64
	}{
		{ints{{1}}, []int64{1 << 31}, api.MaxNorm}, {ints{{1}}, []int64{1<<31 + 1}, 0}, {ints{{1}}, []int64{-1 << 31}, api.MaxNorm},
		{ints{{4}}, []int64{1 << 30}, api.MaxNorm}, {ints{{5}}, []int64{1 << 30}, 0}, {ints{{10000}}, []int64{21474836}, 4611685812268960000}, {ints{{10000}}, []int64{21474837}, 0},
		{unit(4), slices.Repeat([]int64{1 << 30}, 4), api.MaxNorm}, {unit(4), []int64{1 << 30, -1 << 30, 1<<30 + 1, 1 << 30}, 0}, {hexagon(), []int64{1 << 31, -1 << 31}, 0}, {hexagon(), []int64{1 << 30, 1}, 1<<61 + 1<<31 + 2},
	} {
		if n, ok := vector.Norm(c.h, c.x); n != c.norm || ok != (c.norm > 0) {
			t.Errorf("Norm of %v, %v: %d %v", c.h, c.x, n, ok)
		}
	}
}

// P9.2: the examples of the chapter.
func TestNormExamples(t *testing.T) {
	if n, ok := vector.Norm(hexagon(), []int64{1, -1}); n != 2 || !ok {
		t.Errorf("Norm: %d %v", n, ok)
	}
	if n, ok := vector.Inner(hexagon(), []int64{1, 0}, []int64{0, 1}); n != 1 || !ok {
		t.Errorf("Inner: %d %v", n, ok)
	}
}

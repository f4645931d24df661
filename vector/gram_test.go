package vector_test

import (
	"math"
	"math/big"
	"math/rand/v2"
	"slices"
	"testing"

	"quadform/api"
	"quadform/vector"
)

// expectGram compares Gram with the definition, for any lists of coordinates. It returns whether there is a value.
func expectGram(t *testing.T, h, l ints) bool {
	t.Helper()
	has := true
	want := zeros(len(l), len(l))
	for i, x := range l {
		for j, y := range l {
			if !isVectorOf(len(h), x) || !isVectorOf(len(h), y) || !isLimited(product(h, x, y)) {
				has = false
			} else {
				want[i][j] = product(h, x, y).Int64()
			}
		}
	}
	if !has {
		want = nil
	}
	if got, ok := vector.Gram(h, l); ok != has || !sameLists(got, want) {
		t.Errorf("Gram of %v, %v: %v %v, want %v", h, l, got, ok, want)
	}
	return has
}

// P9.7
func TestGram(t *testing.T) {
	random := rand.New(rand.NewPCG(19, 20))
	for _, h := range forms() {
		for _, size := range []int64{1, 10, 1 << 20} {
			var l ints
			for range random.IntN(12) {
				l = append(l, shortVector(random, len(h), size))
			}
			if !expectGram(t, h, l) {
				t.Errorf("Gram of %v, %v has no value", h, l)
			}
		}
		if m, ok := vector.Gram(h, unit(len(h))); !ok || !sameLists(m, h) {
			t.Errorf("Gram of %v and the basis: %v", h, m)
		}
	}
}

// P9.7: norms around the limits.
func TestGramOfVectors(t *testing.T) {
	random := rand.New(rand.NewPCG(21, 22))
	with := 0
	for _, h := range forms() {
		for range 60 {
			var l ints
			for range 1 + random.IntN(3) {
				x := shortVector(random, len(h), 1<<(24+random.IntN(8)))
				if random.IntN(8) == 0 {
					x = vectorOf(random, len(h))
				}
				l = append(l, x)
			}
			if expectGram(t, h, l) {
				with++
			}
		}
	}
	if with < 500 || with > 2000 {
		t.Errorf("%d lists have a matrix", with)
	}
	for n := 1; n <= api.MaxDim; n++ {
		long := one(n, n-1, 1<<31)
		expectGram(t, unit(n), ints{long, negative(long), one(n, 0, 1), one(n, 0, 1<<31), make([]int64, n)})
		expectGram(t, unit(n), ints{long, one(n, 0, 1<<31+1)})
		expectGram(t, unit(n), ints{one(n, 0, top), one(n, n-1, 1)})
		expectGram(t, unit(n), ints{one(n, 0, 1<<32)})
	}
}

// P9.7: lists that are empty, have equal elements, or contain zero.
func TestGramExamples(t *testing.T) {
	for _, c := range []struct{ h, l, want ints }{
		{hexagon(), nil, nil}, {hexagon(), ints{}, nil}, {hexagon(), ints{{0, 0}}, ints{{0}}},
		{hexagon(), ints{{1, 0}, {1, -1}, {0, 0}}, ints{{2, 1, 0}, {1, 2, 0}, {0, 0, 0}}},
		{hexagon(), ints{{1, 0}, {1, 0}, {-1, 0}}, ints{{2, 2, -2}, {2, 2, -2}, {-2, -2, 2}}},
		{diagonal(1, 7), ints{{3, 0}, {0, 2}, {1, 1}}, ints{{9, 0, 3}, {0, 28, 14}, {3, 14, 8}}},
	} {
		if got, ok := vector.Gram(c.h, c.l); !ok || !sameLists(got, c.want) {
			t.Errorf("Gram of %v, %v: %v %v, want %v", c.h, c.l, got, ok, c.want)
		}
	}
}

// P9.7: each element may be the wrong one.
func TestGramErrors(t *testing.T) {
	for _, h := range forms() {
		n := len(h)
		wrong := ints{nil, make([]int64, n-1), make([]int64, n+1), one(n, n-1, top+1), one(n, 0, -top-1), one(n, 0, math.MinInt64), one(n, n-1, top), one(n, 0, 1<<31+1)}
		for _, x := range wrong {
			for place := range 3 {
				l := ints{one(n, 0, 1), one(n, n-1, 1), one(n, 0, -1)}
				l[place] = x
				if got, ok := vector.Gram(h, l); ok || len(got) > 0 {
					t.Errorf("Gram of %v, %v: %v", h, l, got)
				}
			}
		}
	}
	for _, h := range notReduced() {
		for _, l := range []ints{nil, {nil}, {{1}}, {{1, 0}}, {make([]int64, len(h))}, h} {
			if got, ok := vector.Gram(h, l); ok || len(got) > 0 {
				t.Errorf("Gram of %v, %v: %v", h, l, got)
			}
		}
	}
}

// expectUnimodular compares Unimodular with the definition, and returns the answer.
func expectUnimodular(t *testing.T, l ints) bool {
	t.Helper()
	want := isUnimodular(l)
	if vector.Unimodular(l) != want {
		t.Errorf("Unimodular of %v is not %v", l, want)
	}
	return want
}

// P9.8
func TestUnimodular(t *testing.T) {
	random := rand.New(rand.NewPCG(23, 24))
	for n := 1; n <= api.MaxDim; n++ {
		for _, size := range []int64{0, 1, 2, 5, 1 << 10, 1 << 29} {
			for range 10 {
				l := unimodular(random, n, size)
				if !expectUnimodular(t, l) {
					t.Errorf("%v is not unimodular", l)
				}
				l[random.IntN(n)][random.IntN(n)] += 1 + random.Int64N(3)
				expectUnimodular(t, l)
				expectUnimodular(t, slices.Concat(l[1:], l[:1]))
			}
		}
		for place := range n {
			for _, factor := range []int64{0, 2, -2, 3, math.MinInt64, math.MaxInt64} {
				l := unit(n)
				l[place][place] = factor
				if expectUnimodular(t, l) {
					t.Errorf("%v is unimodular", l)
				}
			}
		}
	}
	count := 0
	for code := range 5 * 5 * 5 * 5 {
		if expectUnimodular(t, ints{{int64(code%5) - 2, int64(code/5%5) - 2}, {int64(code/25%5) - 2, int64(code/125) - 2}}) {
			count++
		}
	}
	if count != 104 {
		t.Errorf("%d matrices are unimodular", count)
	}
}

// P9.8: determinants that are 1 or -1 modulo 2^64, and long entries.
func TestUnimodularOfLongMatrices(t *testing.T) {
	const least, greatest = math.MinInt64, math.MaxInt64
	for _, c := range []struct {
		l    ints
		want bool
	}{
		{ints{{1 << 32, 1}, {1, 1 << 32}}, false}, {ints{{1 << 32, 1}, {-1, 1 << 32}}, false}, {diagonal(1<<32, 1<<32), false}, {diagonal(greatest, greatest), false}, {diagonal(1<<32+1, 1<<32-1), false}, {diagonal(-greatest, greatest), false}, {diagonal(3, -6148914691236517205), false},
		{ints{{least, 1}, {1, 0}}, true}, {ints{{least, 1}, {-1, 0}}, true}, {ints{{1, least}, {0, 1}}, true}, {ints{{greatest, greatest - 1}, {1, 1}}, true}, {ints{{greatest, least}, {-1, 1}}, true}, {ints{{least, greatest}, {greatest, least}}, false}, {ints{{least, least}, {least, least}}, false}, {ints{{least, least + 1}, {1, 1}}, true}, {ints{{greatest, least}, {1, 1}}, false},
	} {
		if expectUnimodular(t, c.l) != c.want {
			t.Errorf("Unimodular of %v is not %v", c.l, c.want)
		}
		for n := len(c.l) + 1; n <= api.MaxDim; n++ {
			l := unit(n)
			copy(l[n-2][n-2:], c.l[0])
			copy(l[n-1][n-2:], c.l[1])
			if expectUnimodular(t, l) != c.want {
				t.Errorf("Unimodular of %v is not %v", l, c.want)
			}
		}
	}
	random := rand.New(rand.NewPCG(25, 26))
	for n := 1; n <= api.MaxDim; n++ {
		for range 20 {
			l := zeros(n, n)
			for i := range n {
				for j := range n {
					l[i][j] = int64(random.Uint64())
				}
			}
			expectUnimodular(t, l)
			l[n-1] = slices.Clone(l[0])
			if n > 1 && expectUnimodular(t, l) {
				t.Errorf("%v is unimodular", l)
			}
		}
	}
}

// shapes returns matrices that are not square with 1 to MaxDim rows.
func shapes() []ints {
	list := []ints{nil, {}, {{}}, {nil}, {{}, {}}, {{1, 0}}, {{1}, {0}}, {{1, 0}, {0}}, {{1}, {0, 1}}, {{1, 0}, nil}, {nil, {1, 0}}, {{1, 0, 0}, {0, 1}}, {{1, 0, 0}, {0, 1, 0}}, {{1, 0}, {0, 1}, {0, 0}}, unit(9), unit(16), unit(17), unit(100), zeros(1000, 0), zeros(8, 9), zeros(9, 8), unit(9)[:8], append(unit(8), make([]int64, 8)), append(unit(8), nil)}
	for n := 2; n <= api.MaxDim; n++ {
		for place := range n {
			short, long := unit(n), unit(n)
			short[place], long[place] = short[place][:n-1], append(long[place], 0)
			list = append(list, short, long)
		}
	}
	return list
}

// P9.8, P9.9: matrices that are not square, and those with too many rows.
func TestShapes(t *testing.T) {
	for _, l := range shapes() {
		if vector.Unimodular(l) {
			t.Errorf("%v is unimodular", l)
		}
		for n := 1; n <= api.MaxDim; n++ {
			expectNoTransform(t, unit(n), l)
		}
	}
}

// expectNoTransform checks that Transform has no value.
func expectNoTransform(t *testing.T, h, base ints) {
	t.Helper()
	if got, ok := vector.Transform(h, base); ok || len(got) > 0 {
		t.Errorf("Transform of %v, %v: %v %v", h, base, got, ok)
	}
}

// expectTransform compares Transform with the definition, for a reduced form and a square matrix of the same size. It returns whether there is a value.
func expectTransform(t *testing.T, h, base ints) bool {
	t.Helper()
	has := isUnimodular(base)
	want := zeros(len(h), len(h))
	for i, x := range turned(base) {
		has = has && isVectorOf(len(h), x)
		for j, y := range turned(base) {
			has = has && isLimited(product(h, x, y))
			want[i][j] = product(h, x, y).Int64()
		}
	}
	if !has {
		expectNoTransform(t, h, base)
	} else if got, ok := vector.Transform(h, base); !ok || !sameLists(got, want) {
		t.Errorf("Transform of %v, %v: %v %v, want %v", h, base, got, ok, want)
	}
	return has
}

// P9.9
func TestTransform(t *testing.T) {
	random := rand.New(rand.NewPCG(27, 28))
	without := 0
	for _, h := range forms() {
		n := len(h)
		for _, size := range []int64{0, 1, 2, 1 << 10, 1 << 13} {
			base := unimodular(random, n, size)
			if !expectTransform(t, h, base) && size <= 1<<10 {
				t.Errorf("Transform of %v, %v has no value", h, base)
			}
			base[random.IntN(n)][random.IntN(n)]++
			if !expectTransform(t, h, base) {
				without++
			}
		}
		if got, ok := vector.Transform(h, unit(n)); !ok || !sameLists(got, h) {
			t.Errorf("Transform of %v and the unit: %v", h, got)
		}
	}
	if without < 100 {
		t.Errorf("only %d without a value", without)
	}
}

// P9.9: columns that are no vectors, and entries beyond the limits.
func TestTransformLimits(t *testing.T) {
	for n := 2; n <= api.MaxDim; n++ {
		for _, entry := range []int64{1 << 30, 1<<31 - 1, 1 << 31, 1 << 32, top, top + 1, math.MaxInt64, math.MinInt64} {
			for _, sign := range []int64{1, -1} {
				base := unit(n)
				base[0][n-1] = sign * entry
				if expectTransform(t, unit(n), base) != (entry > 0 && entry < 1<<31) {
					t.Errorf("Transform of %v", base)
				}
				expectTransform(t, unit(n), turned(base))
				expectTransform(t, diagonal(append(slices.Repeat([]int64{1}, n-1), 10000)...), base)
			}
		}
	}
	expectNoTransform(t, unit(2), ints{{1 << 31, -1}, {1, 0}})
	expectNoTransform(t, unit(2), ints{{-1, 1 << 31}, {0, 1}})
}

// P9.9: a column of the norm MaxNorm, and the same columns for the form 1, 8 instead of 1, 7.
func TestTransformAtMaxNorm(t *testing.T) {
	// x^2 + 7 y^2 is a power of 2, with odd numbers x and y.
	x, y := int64(1), int64(1)
	for range 59 {
		next := (x - 7*y) / 2
		if next%2 == 0 {
			y = -y
			next = (x - 7*y) / 2
		}
		x, y = next, (x+y)/2
	}
	columns, ok := complete(x, y)
	if !ok {
		t.Fatalf("%d and %d are not coprime", x, y)
	}
	m, ok := vector.Transform(diagonal(1, 7), columns)
	if !ok || m[0][0] != api.MaxNorm || !expectTransform(t, diagonal(1, 7), columns) {
		t.Errorf("Transform of %v: %v %v", columns, m, ok)
	}
	expectTransform(t, diagonal(1, 7), ints{{columns[0][1], columns[0][0]}, {columns[1][1], columns[1][0]}})
	if expectTransform(t, diagonal(1, 8), columns) {
		t.Errorf("Transform of %v has a norm beyond MaxNorm", columns)
	}
}

// complete returns a matrix of determinant 1 with the first column (x, y), whose other entries are no longer; false if there is none.
func complete(x, y int64) (ints, bool) {
	v, u := new(big.Int), new(big.Int)
	gcd := new(big.Int).GCD(v, u, big.NewInt(x), big.NewInt(y))
	return ints{{x, -u.Int64()}, {y, v.Int64()}}, gcd.Cmp(big.NewInt(1)) == 0
}

// P9.9: forms that are not reduced, and matrices with other numbers of rows.
func TestTransformErrors(t *testing.T) {
	for _, h := range notReduced() {
		for n := range 10 {
			expectNoTransform(t, h, unit(n))
		}
	}
	for _, h := range forms() {
		for n := range 12 {
			if n != len(h) {
				expectNoTransform(t, h, unit(n))
			}
		}
	}
}

// P9.9
func TestTransformExamples(t *testing.T) {
	for _, c := range []struct{ h, base, want ints }{
		{hexagon(), ints{{1, 1}, {0, 1}}, ints{{2, 3}, {3, 6}}}, {hexagon(), ints{{1, 0}, {1, 1}}, ints{{6, 3}, {3, 2}}}, {hexagon(), ints{{-1, 0}, {0, 1}}, ints{{2, -1}, {-1, 2}}}, {diagonal(1, 3), ints{{0, 1}, {1, 0}}, diagonal(3, 1)}, {diagonal(1, 3), ints{{1, 2}, {0, 1}}, ints{{1, 2}, {2, 7}}}, {ints{{7}}, ints{{-1}}, ints{{7}}}, {ints{{10000}}, ints{{1}}, ints{{10000}}},
	} {
		if got, ok := vector.Transform(c.h, c.base); !ok || !sameLists(got, c.want) {
			t.Errorf("Transform of %v, %v: %v %v, want %v", c.h, c.base, got, ok, c.want)
		}
	}
}

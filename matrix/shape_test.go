package matrix_test

import (
	"math"
	"math/rand/v2"
	"slices"
	"testing"

	"quadform/api"
	"quadform/integer"
	"quadform/matrix"
)

// P3.1
func TestShape(t *testing.T) {
	shapes(func(rows, cols int) {
		if r, c, ok := matrix.Shape(of(wide(rows, cols))); r != rows || c != cols || !ok {
			t.Errorf("Shape of %d by %d: %d, %d, %v", rows, cols, r, c, ok)
		}
	})
	for _, l := range notValid() {
		if r, c, ok := matrix.Shape(of(l)); r != 0 || c != 0 || ok {
			t.Errorf("Shape of %v: %d, %d, %v", l, r, c, ok)
		}
	}
}

// P3.1: the numbers of entries decide, whatever the entries are.
func TestShapeOfZeroValues(t *testing.T) {
	m := [][]api.Int{{{}, {Neg: true}}, {{Mag: []uint32{0}}, {}}, make([]api.Int, 2)}
	if r, c, ok := matrix.Shape(m); r != 3 || c != 2 || !ok {
		t.Errorf("got %d, %d, %v", r, c, ok)
	}
}

var extremes = []int64{0, 1, -1, 7, -7, 1<<31 - 1, 1 << 31, 1<<32 - 1, 1 << 32, -1 << 32, 1 << 62, math.MaxInt64 - 1, math.MaxInt64, math.MinInt64, math.MinInt64 + 1}

// extremeMatrix returns a matrix of extremes.
func extremeMatrix(rows, cols int) ints {
	l := wide(rows, cols)
	for i := range l {
		for j := range l[i] {
			l[i][j] = extremes[(i*cols+j)%len(extremes)]
		}
	}
	return l
}

// P3.1
func TestFromInts(t *testing.T) {
	shapes(func(rows, cols int) {
		l := extremeMatrix(rows, cols)
		got, ok := matrix.FromInts(l)
		expect(t, "FromInts", got, ok, valuesOfInts(l))
	})
	for _, l := range notValid() {
		got, ok := matrix.FromInts(l)
		expectNone(t, "FromInts", got, ok)
	}
}

// P3.1
func TestToInts(t *testing.T) {
	shapes(func(rows, cols int) {
		l := extremeMatrix(rows, cols)
		if got, ok := matrix.ToInts(of(l)); !ok || !slices.EqualFunc(got, l, slices.Equal) {
			t.Errorf("ToInts of %v = %v, %v", l, got, ok)
		}
	})
	for _, l := range notValid() {
		if got, ok := matrix.ToInts(of(l)); ok || len(got) > 0 {
			t.Errorf("ToInts of %v = %v, %v", l, got, ok)
		}
	}
}

// P3.1: one entry that does not fit, at any place.
func TestToIntsTooLarge(t *testing.T) {
	for _, a := range []api.Int{
		{Mag: []uint32{0, 1 << 31}}, {Neg: true, Mag: []uint32{1, 1 << 31}}, {Mag: []uint32{math.MaxUint32, math.MaxUint32}},
		{Mag: []uint32{0, 0, 1}}, {Neg: true, Mag: []uint32{0, 0, 1, 0}}, {Mag: []uint32{5, 0, 0, 0, 1}},
	} {
		for i := range 2 {
			for j := range 3 {
				m := of(ints{{1, 2, 3}, {4, 5, 6}})
				m[i][j] = a
				if got, ok := matrix.ToInts(m); ok || len(got) > 0 {
					t.Errorf("ToInts of %v = %v, %v", m, got, ok)
				}
			}
		}
	}
	least := [][]api.Int{{{Neg: true, Mag: []uint32{0, 1 << 31, 0}}, {Neg: true, Mag: []uint32{0, 0}}}}
	if got, ok := matrix.ToInts(least); !ok || got[0][0] != math.MinInt64 || got[0][1] != 0 {
		t.Errorf("ToInts of %v = %v, %v", least, got, ok)
	}
}

// P3.1
func TestIdentity(t *testing.T) {
	for n := 1; n <= api.MaxSize; n++ {
		want := wide(n, n)
		for i := range want {
			want[i][i] = 1
		}
		got, ok := matrix.Identity(n)
		expect(t, "Identity", got, ok, valuesOfInts(want))
	}
	for _, n := range []int{0, -1, -api.MaxSize, api.MaxSize + 1, math.MaxInt, math.MinInt} {
		got, ok := matrix.Identity(n)
		expectNone(t, "Identity", got, ok)
	}
}

// P3.2
func TestEqual(t *testing.T) {
	random := rand.New(rand.NewPCG(1, 2))
	shapes(func(rows, cols int) {
		m := randomMatrix(random, rows, cols, 3)
		same := must(matrix.Transpose(must(matrix.Transpose(m))))
		if !matrix.Equal(m, m) || !matrix.Equal(m, same) || !matrix.Equal(same, m) {
			t.Errorf("a %d by %d matrix is not equal to its copy", rows, cols)
		}
		i, j := random.IntN(rows), random.IntN(cols)
		for _, other := range []api.Int{integer.Add(m[i][j], integer.Small(1)), integer.Sub(integer.Neg(m[i][j]), integer.Small(1))} {
			same[i][j] = other
			if integer.Cmp(other, m[i][j]) != 0 && (matrix.Equal(m, same) || matrix.Equal(same, m)) {
				t.Errorf("%d by %d matrices with other entries at (%d, %d) are equal", rows, cols, i, j)
			}
		}
	})
}

// P3.2: other shapes, other forms of the same numbers, and the opposite number.
func TestEqualOfShapes(t *testing.T) {
	for _, c := range [][2]ints{
		{{{1, 2}}, {{1}, {2}}}, {{{1, 2}}, {{1, 2}, {1, 2}}}, {{{1}}, {{1, 1}}}, {{{1, 2}, {3, 4}}, {{1, 2}}}, {{{0}}, {{0, 0}}}, {{{5}}, {{-5}}},
	} {
		if matrix.Equal(of(c[0]), of(c[1])) || matrix.Equal(of(c[1]), of(c[0])) {
			t.Errorf("%v and %v are equal", c[0], c[1])
		}
	}
	canonical := [][]api.Int{{integer.Small(0), integer.Small(-7)}}
	if !matrix.Equal(canonical, of(ints{{0, -7}})) || !matrix.Equal([][]api.Int{{{Neg: true}, {Neg: true, Mag: []uint32{7, 0}}}}, canonical) {
		t.Error("the same integers are not equal")
	}
}

// P3.2: matrices that are not valid are not even equal to themselves.
func TestEqualNotValid(t *testing.T) {
	one := of(ints{{1}})
	for _, l := range notValid() {
		if m := of(l); matrix.Equal(m, m) || matrix.Equal(m, one) || matrix.Equal(one, m) {
			t.Errorf("%v is equal", l)
		}
	}
}

// P3.2
func TestTranspose(t *testing.T) {
	random := rand.New(rand.NewPCG(3, 4))
	shapes(func(rows, cols int) {
		m := randomMatrix(random, rows, cols, 3)
		want := valuesOfInts(wide(cols, rows))
		for i := range rows {
			for j := range cols {
				want[j][i] = value(m[i][j])
			}
		}
		got, ok := matrix.Transpose(m)
		expect(t, "Transpose", got, ok, want)
	})
	for _, l := range notValid() {
		got, ok := matrix.Transpose(of(l))
		expectNone(t, "Transpose", got, ok)
	}
}

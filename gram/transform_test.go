package gram_test

import (
	"fmt"
	"math/big"
	"math/rand/v2"
	"testing"

	"quadform/api"
	"quadform/bareiss"
	"quadform/gram"
)

// changed returns t'gt by package big.
func changed(g, t [][]api.Int) values {
	return times(times(turned(valuesOf(t)), valuesOf(g)), valuesOf(t))
}

// P7.6
func TestTransform(t *testing.T) {
	random := rand.New(rand.NewPCG(5, 6))
	count := 0
	for _, g := range forms() {
		n := len(g)
		for cols := 1; cols <= n; cols++ {
			for _, m := range [][][]api.Int{smallMatrix(random, n, cols, 1), smallMatrix(random, n, cols, 9), longMatrix(random, n, cols, 3)} {
				got, e := gram.Transform(g, m)
				if must(bareiss.Rank(m)) < cols {
					expectError(t, fmt.Sprint("Transform of ", g, m), got, e, api.ErrSingular)
					continue
				}
				count++
				expect(t, fmt.Sprint("Transform of ", g, m), got, e, changed(g, m))
				if e := gram.Validate(got); e != api.OK {
					t.Errorf("Transform of %v by %v is no Gram matrix: %d", g, m, e)
				}
			}
		}
	}
	if count < 100 {
		t.Errorf("only %d matrices have independent columns", count)
	}
	for _, c := range []struct{ g, t, want ints }{
		{hexagon, ints{{1, 1}, {0, 1}}, ints{{2, 3}, {3, 6}}}, {hexagon, ints{{1, 0}, {1, 1}}, ints{{6, 3}, {3, 2}}}, {hexagon, ints{{2, 0}, {0, 1}}, ints{{8, 2}, {2, 2}}}, {hexagon, ints{{1}, {-1}}, ints{{2}}}, {hexagon, ints{{0}, {3}}, ints{{18}}},
		{ints{{5}}, ints{{-2}}, ints{{20}}}, {unit(3), ints{{1, 0}, {2, 0}, {0, 3}}, ints{{5, 0}, {0, 9}}}, {unit(3), ints{{0, 0, 1}, {1, 0, 0}, {0, 1, 0}}, unit(3)},
	} {
		got, e := gram.Transform(of(c.g), of(c.t))
		expect(t, fmt.Sprint("Transform of ", c.g, c.t), got, e, valuesOf(of(c.want)))
	}
}

// P7.6
func TestTransformByOtherShapes(t *testing.T) {
	for n := 1; n <= api.MaxDim; n++ {
		for rows := range 20 {
			for cols := range 20 {
				if rows == n && cols >= 1 && cols <= n {
					continue
				}
				got, e := gram.Transform(of(unit(n)), of(zeros(rows, cols)))
				expectError(t, fmt.Sprint("Transform in dimension ", n, " by a matrix with ", rows, " rows and ", cols, " columns"), got, e, api.ErrShape)
			}
		}
	}
	for _, l := range []ints{nil, {{}, {}}, {{1}, {0, 1}}, {{1, 0}, {0}}, {nil, {1}}, {{1}, nil}, {{1, 0, 1}, {0, 1, 1}}, {{1}, {0}, {0}}, {{1, 0}}} {
		got, e := gram.Transform(of(hexagon), of(l))
		expectError(t, fmt.Sprint("Transform by ", l), got, e, api.ErrShape)
	}
}

// P7.6
func TestTransformByDependentColumns(t *testing.T) {
	for _, c := range []struct{ g, t ints }{
		{ints{{5}}, ints{{0}}}, {hexagon, ints{{0}, {0}}}, {hexagon, ints{{1, 2}, {1, 2}}}, {hexagon, ints{{1, 0}, {1, 0}}}, {hexagon, ints{{0, 0}, {1, -3}}}, {hexagon, ints{{1 << 40, 1 << 20}, {1 << 20, 1}}},
		{unit(3), ints{{1, 2, 3}, {4, 5, 6}, {7, 8, 9}}}, {unit(3), ints{{1, 2}, {2, 4}, {3, 6}}}, {unit(3), zeros(3, 1)}, {e8(), zeros(8, 8)},
	} {
		got, e := gram.Transform(of(c.g), of(c.t))
		expectError(t, fmt.Sprint("Transform by ", c.t), got, e, api.ErrSingular)
	}
	random := rand.New(rand.NewPCG(7, 8))
	for n := 2; n <= api.MaxDim; n++ {
		for rank := 1; rank < n; rank++ {
			m := times(valuesOf(smallMatrix(random, n, rank, 9)), valuesOf(smallMatrix(random, rank, rank+1, 9)))
			got, e := gram.Transform(of(unit(n)), build(n, rank+1, func(i, j int) api.Int { return intOf(m[i][j]) }))
			expectError(t, fmt.Sprint("Transform by ", m), got, e, api.ErrSingular)
		}
	}
}

// P7.7
func TestScale(t *testing.T) {
	for _, g := range forms() {
		for _, c := range []*big.Int{big.NewInt(1), big.NewInt(2), big.NewInt(1 << 33), big10(30)} {
			got, e := gram.Scale(g, intOf(c))
			expect(t, fmt.Sprint("Scale of ", g, c), got, e, scaled(valuesOf(g), c))
		}
		for _, c := range []api.Int{{}, {Neg: true}, {Mag: []uint32{0, 0}}, small(-1), small(-1 << 63), intOf(new(big.Int).Neg(big10(30)))} {
			got, e := gram.Scale(g, c)
			expectError(t, fmt.Sprint("Scale of ", g, c), got, e, api.ErrArg)
		}
	}
	got, e := gram.Scale(of(hexagon), small(3))
	expect(t, "Scale", got, e, valuesOf(of(ints{{6, 3}, {3, 6}})))
}

// joined returns the matrix with the blocks a and b on the diagonal.
func joined(a, b values) values {
	size := len(a) + len(b)
	out := make(values, size)
	for i := range out {
		for range size {
			out[i] = append(out[i], new(big.Int))
		}
	}
	for i := range a {
		copy(out[i], a[i])
	}
	for i := range b {
		copy(out[len(a)+i][len(a):], b[i])
	}
	return out
}

// P7.7
func TestOrthogonalSum(t *testing.T) {
	all := forms()
	for _, a := range all {
		for _, b := range all {
			got, e := gram.OrthogonalSum(a, b)
			if len(a)+len(b) > api.MaxDim {
				expectError(t, fmt.Sprint("OrthogonalSum of ", a, b), got, e, api.ErrTooLarge)
			} else {
				expect(t, fmt.Sprint("OrthogonalSum of ", a, b), got, e, joined(valuesOf(a), valuesOf(b)))
			}
		}
	}
	got, e := gram.OrthogonalSum(of(hexagon), of(ints{{5}}))
	expect(t, "OrthogonalSum", got, e, valuesOf(of(ints{{2, 1, 0}, {1, 2, 0}, {0, 0, 5}})))
	got, e = gram.OrthogonalSum(of(ints{{5}}), of(hexagon))
	expect(t, "OrthogonalSum", got, e, valuesOf(of(ints{{5, 0, 0}, {0, 2, 1}, {0, 1, 2}})))
}

// P7.7: the error of a comes ahead of the error of b, and this one ahead of ErrTooLarge.
func TestErrorsOfOrthogonalSum(t *testing.T) {
	all := wrongs()
	for i, first := range all {
		for _, second := range all {
			got, e := gram.OrthogonalSum(first.g, second.g)
			expectError(t, fmt.Sprint("OrthogonalSum of the wrong matrix ", i, " and another one"), got, e, first.e)
		}
		for _, n := range []int{1, 2, 8} {
			got, e := gram.OrthogonalSum(first.g, of(unit(n)))
			expectError(t, fmt.Sprint("OrthogonalSum of ", first.g, n), got, e, first.e)
			got, e = gram.OrthogonalSum(of(unit(n)), first.g)
			expectError(t, fmt.Sprint("OrthogonalSum of ", n, first.g), got, e, first.e)
		}
	}
	for n := 1; n <= api.MaxDim; n++ {
		got, e := gram.OrthogonalSum(of(unit(n)), of(unit(api.MaxDim+1-n)))
		expectError(t, "OrthogonalSum", got, e, api.ErrTooLarge)
	}
}

// cofactors returns the adjugate by its definition.
func cofactors(m values) values {
	out := make(values, len(m))
	for i := range m {
		for j := range m {
			minor := determinant(without(m, j, i))
			if (i+j)%2 == 1 {
				minor.Neg(minor)
			}
			out[i] = append(out[i], minor)
		}
	}
	return out
}

// P7.8
func TestDual(t *testing.T) {
	for _, g := range forms() {
		adjugate, det, e := gram.Dual(g)
		expect(t, fmt.Sprint("Dual of ", g), adjugate, e, cofactors(valuesOf(g)))
		expectInt(t, fmt.Sprint("Dual of ", g), det, e, determinant(valuesOf(g)))
		if e := gram.Validate(adjugate); e != api.OK {
			t.Errorf("Dual of %v is no Gram matrix: %d", g, e)
		}
	}
	adjugate, det, e := gram.Dual(of(hexagon))
	expect(t, "Dual", adjugate, e, valuesOf(of(ints{{2, -1}, {-1, 2}})))
	expectInt(t, "Dual", det, e, big.NewInt(3))
	adjugate, det, e = gram.Dual(of(ints{{7}}))
	expect(t, "Dual", adjugate, e, valuesOf(of(unit(1))))
	expectInt(t, "Dual", det, e, big.NewInt(7))
}

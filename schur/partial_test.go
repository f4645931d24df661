package schur_test

import (
	"math"
	"math/big"
	"math/rand/v2"
	"slices"
	"testing"

	"quadform/api"
	"quadform/bareiss"
	"quadform/integer"
	"quadform/matrix"
	"quadform/rational"
	"quadform/schur"
)

// isNumber reports whether a is the canonical Rat of want.
func isNumber(a api.Rat, want *big.Rat) bool {
	return isInt(a.Num, want.Num()) && isInt(a.Den, want.Denom())
}

// isInt reports whether a is the canonical Int of want.
func isInt(a api.Int, want *big.Int) bool {
	bytes := make([]byte, 4*len(a.Mag))
	for i, limb := range a.Mag {
		big.NewInt(int64(limb)).FillBytes(bytes[4*(len(a.Mag)-1-i):][:4])
	}
	value := new(big.Int).SetBytes(bytes)
	return (len(a.Mag) == 0 || a.Mag[len(a.Mag)-1] != 0) && value.CmpAbs(want) == 0 && a.Neg == (want.Sign() < 0)
}

// expectPartialNorm compares PartialNorm with the definition.
func expectPartialNorm(t *testing.T, h ints, c complements, tail []int64) {
	t.Helper()
	if got, ok := schur.PartialNorm(h, tail); !ok || !isNumber(got, c.norm(tail)) {
		t.Errorf("PartialNorm of %v, %v: %v %v, want %v", h, tail, got, ok, c.norm(tail))
	}
}

// expectNoPartialNorm checks that there is no value.
func expectNoPartialNorm(t *testing.T, h ints, tail []int64) {
	t.Helper()
	if got, ok := schur.PartialNorm(h, tail); ok || got.Num.Neg || got.Den.Neg || len(got.Num.Mag)+len(got.Den.Mag) > 0 {
		t.Errorf("PartialNorm of %v, %v: %v %v", h, tail, got, ok)
	}
}

// P10.1
func TestPartialNorm(t *testing.T) {
	random := rand.New(rand.NewPCG(1, 2))
	for _, h := range forms() {
		c := complementsOf(h)
		for m := 1; m <= len(h); m++ {
			for range 6 {
				expectPartialNorm(t, h, c, tailOf(random, m))
			}
			expectPartialNorm(t, h, c, make([]int64, m))
			expectPartialNorm(t, h, c, with(1, make([]int64, m-1)))
		}
	}
}

// P10.1: coordinates at the limits, with all signs.
func TestPartialNormAtMaxCoord(t *testing.T) {
	for _, h := range append(steep(), roots(8, 2), unit(8), diagonal(1, 1, 1, 1, 1, 1, 1, 10000), ints{{10000}}) {
		c := complementsOf(h)
		for m := 1; m <= len(h); m++ {
			for signs := range 1 << m {
				tail := make([]int64, m)
				for i := range tail {
					tail[i] = top - int64(signs>>i&1)*2*top
				}
				expectPartialNorm(t, h, c, tail)
			}
		}
	}
}

// P10.1: the numbers themselves.
func TestPartialNormByHand(t *testing.T) {
	for _, c := range []struct {
		h    ints
		tail []int64
		want string
	}{
		{hexagon(), []int64{1}, "3/2"}, {hexagon(), []int64{-1}, "3/2"}, {hexagon(), []int64{0}, "0"}, {hexagon(), []int64{1, 0}, "2"}, {hexagon(), []int64{1, 1}, "6"}, {hexagon(), []int64{1, -1}, "2"}, {hexagon(), []int64{4}, "24"},
		{ints{{7}}, []int64{-3}, "63"}, {ints{{10000}}, []int64{1}, "10000"}, {ints{{4, 2}, {2, 3}}, []int64{1}, "2"}, {ints{{3, 1}, {1, 3}}, []int64{1}, "8/3"}, {ints{{3, 1}, {1, 3}}, []int64{-1, 3}, "24"},
		{ints{{2, 1, 1}, {1, 2, 1}, {1, 1, 2}}, []int64{1}, "4/3"}, {ints{{2, 1, 1}, {1, 2, 1}, {1, 1, 2}}, []int64{1, 0}, "3/2"}, {ints{{2, 1, 1}, {1, 2, 1}, {1, 1, 2}}, []int64{1, 1}, "4"}, {ints{{2, 1, 1}, {1, 2, 1}, {1, 1, 2}}, []int64{-1, 1, 1}, "4"},
		{diagonal(2, 3, 5, 7), []int64{1, -2}, "33"}, {diagonal(2, 3, 5, 7), []int64{9, 0, 0}, "243"}, {unit(8), []int64{1, 2, 3, 4, 5, 6, 7, 8}, "204"},
	} {
		if got, ok := schur.PartialNorm(c.h, c.tail); !ok || rational.Format(got) != c.want {
			t.Errorf("PartialNorm of %v, %v: %v %v, want %s", c.h, c.tail, got, ok, c.want)
		}
	}
}

// P10.1: the real vector that has the least norm has the partial norm, and no integer vector has a lesser one.
func TestPartialNormIsLeast(t *testing.T) {
	random := rand.New(rand.NewPCG(3, 4))
	for _, h := range forms() {
		n := len(h)
		for m := 1; m < n; m++ {
			tail := make([]int64, m)
			for i := range tail {
				tail[i] = random.Int64N(9) - 4
			}
			got, _ := schur.PartialNorm(h, tail)
			if point := lowest(h, tail); rational.Cmp(normOf(h, point), got) != 0 {
				t.Errorf("PartialNorm of %v, %v: %v is not the norm of %v", h, tail, got, point)
			}
			for range 20 {
				point := rationals(tail)
				for range n - m {
					point = append(rationals([]int64{random.Int64N(9) - 4}), point...)
				}
				if rational.Cmp(normOf(h, point), got) < 0 {
					t.Errorf("PartialNorm of %v, %v: %v is greater than the norm of %v", h, tail, got, point)
				}
			}
		}
	}
}

// rationals returns the numbers as Rats.
func rationals(x []int64) []api.Rat {
	var list []api.Rat
	for _, n := range x {
		list = append(list, rational.Whole(integer.Small(n)))
	}
	return list
}

// lowest returns the vector that ends with tail and has an inner product of 0 with each basis vector ahead of it.
func lowest(h ints, tail []int64) []api.Rat {
	ahead := len(h) - len(tail)
	part := zeros(ahead, ahead)
	var right []api.Int
	for i := range ahead {
		copy(part[i], h[i])
		sum := int64(0)
		for j, n := range tail {
			sum -= h[i][ahead+j] * n
		}
		right = append(right, integer.Small(sum))
	}
	m, _ := matrix.FromInts(part)
	x, _ := bareiss.Solve(m, right)
	return append(x, rationals(tail)...)
}

// normOf returns x'hx.
func normOf(h ints, x []api.Rat) api.Rat {
	var total api.Rat
	for i, row := range h {
		for j, n := range row {
			term := rational.Mul(rational.Mul(x[i], x[j]), rational.Whole(integer.Small(n)))
			total = rational.Add(total, term)
		}
	}
	return total
}

// P10.1: tails that are empty, too long, or have a coordinate beyond the limits at any place.
func TestPartialNormErrors(t *testing.T) {
	for _, h := range forms() {
		n := len(h)
		for _, tail := range [][]int64{nil, {}, make([]int64, n+1), slices.Repeat([]int64{1}, n+1), make([]int64, 9), make([]int64, 1000), with(top+1, make([]int64, n))} {
			expectNoPartialNorm(t, h, tail)
		}
		for m := 1; m <= n; m++ {
			for place := range m {
				for _, wrong := range []int64{top + 1, -top - 1, math.MaxInt64, math.MinInt64} {
					tail := make([]int64, m)
					tail[place] = wrong
					expectNoPartialNorm(t, h, tail)
				}
			}
		}
	}
	for _, h := range notReduced() {
		for m := range 10 {
			expectNoPartialNorm(t, h, make([]int64, m))
			expectNoPartialNorm(t, h, slices.Repeat([]int64{1}, m))
		}
	}
}

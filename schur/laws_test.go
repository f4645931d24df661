package schur_test

import (
	"math/rand/v2"
	"slices"
	"testing"

	"quadform/api"
	"quadform/bareiss"
	"quadform/integer"
	"quadform/matrix"
	"quadform/rational"
	"quadform/schur"
	"quadform/vector"
)

// partialNorm returns the partial norm of a tail that has one.
func partialNorm(t *testing.T, h ints, tail []int64) api.Rat {
	t.Helper()
	a, ok := schur.PartialNorm(h, tail)
	if !ok {
		t.Fatalf("%v has no partial norm for %v", tail, h)
	}
	return a
}

// interval returns the interval of a tail that has one.
func interval(t *testing.T, h ints, bound int64, tail []int64) (int64, int64) {
	t.Helper()
	lo, hi, ok := schur.Interval(h, bound, tail)
	if !ok {
		t.Fatalf("%v has no interval for %v, %d", tail, h, bound)
	}
	return lo, hi
}

// P10.4: partial norms grow with the tails, up to the norm, and do not depend on the sign.
func TestPartialNormsGrow(t *testing.T) {
	random := rand.New(rand.NewPCG(11, 12))
	for _, h := range forms() {
		n := len(h)
		for _, size := range []int64{2, 100, 1 << 20} {
			x := make([]int64, n)
			for i := range x {
				x[i] = random.Int64N(2*size+1) - size
			}
			norm, ok := vector.Norm(h, x)
			if !ok || rational.Cmp(partialNorm(t, h, x), rational.Whole(integer.Small(norm))) != 0 {
				t.Errorf("PartialNorm of %v, %v is not the norm %d", h, x, norm)
			}
			for k := range n {
				here := partialNorm(t, h, x[k:])
				if k > 0 && rational.Cmp(here, partialNorm(t, h, x[k-1:])) > 0 || rational.Sign(here) < 0 {
					t.Errorf("PartialNorm of %v, %v is greater than that of %v", h, x[k:], x[k-1:])
				}
				if rational.Cmp(here, partialNorm(t, h, negative(x[k:]))) != 0 {
					t.Errorf("PartialNorm of %v, %v depends on the sign", h, x[k:])
				}
			}
		}
	}
}

// leaves returns the vectors at the ends of the tree of intervals, and the numbers of tails of each length.
func leaves(t *testing.T, h ints, bound int64) (ints, []int) {
	t.Helper()
	var list ints
	steps := make([]int, len(h))
	var walk func(tail []int64)
	walk = func(tail []int64) {
		if len(tail) == len(h) {
			list = append(list, tail)
			return
		}
		lo, hi := interval(t, h, bound, tail)
		steps[len(tail)] += int(hi - lo + 1)
		for x := lo; x <= hi; x++ {
			walk(with(x, tail))
		}
	}
	walk(nil)
	return list, steps
}

// P10.4: the leaves of the tree are the vectors with a norm of at most the bound, and Steps counts its tails.
func TestTree(t *testing.T) {
	for _, h := range forms() {
		for _, bound := range []int64{0, 1, 2, 4, 7, 12} {
			list, steps := leaves(t, h, bound)
			if got, e := schur.Steps(h, bound, api.MaxBudget); e != api.OK || !slices.Equal(got, steps) {
				t.Errorf("Steps of %v, %d: %v %d, want %v", h, bound, got, e, steps)
			}
			if want := short(h, bound, 3); len(h) <= 3 && !slices.EqualFunc(inBox(list, 3), want, slices.Equal) {
				t.Errorf("the leaves of the tree of %v, %d are %v", h, bound, list)
			}
			for _, x := range list {
				if norm, ok := vector.Norm(h, x); !ok || norm > bound {
					t.Errorf("%v is a leaf of the tree of %v, %d", x, h, bound)
				}
			}
			if len(list) > 2000 {
				break
			}
		}
	}
}

// inBox returns the vectors whose coordinates have absolute values of at most size, in ascending order.
func inBox(list ints, size int64) ints {
	var out ints
	for _, x := range list {
		if slices.Max(x) <= size && slices.Min(x) >= -size {
			out = append(out, x)
		}
	}
	slices.SortFunc(out, vector.Compare)
	return out
}

// short returns the vectors with a norm of at most bound whose coordinates have absolute values of at most size, for up to three coordinates.
func short(h ints, bound, size int64) ints {
	if len(h) > 3 {
		return nil
	}
	list := ints{{}}
	for range h {
		var longer ints
		for _, x := range list {
			for next := -size; next <= size; next++ {
				longer = append(longer, append(slices.Clone(x), next))
			}
		}
		list = longer
	}
	return slices.DeleteFunc(list, func(x []int64) bool {
		norm, _ := vector.Norm(h, x)
		return norm > bound
	})
}

// P10.4: the interval of -y is the opposite one of that of y, also if it is empty.
func TestIntervalsOfOpposites(t *testing.T) {
	random := rand.New(rand.NewPCG(13, 14))
	for _, h := range forms() {
		for m := range len(h) {
			for range 10 {
				tail := make([]int64, m)
				for i := range tail {
					tail[i] = random.Int64N(41) - 20
				}
				bound := random.Int64N(1 << 20)
				lo, hi, ok := schur.Interval(h, bound, tail)
				first, last, same := schur.Interval(h, bound, negative(tail))
				if ok != same || first != -hi || last != -lo {
					t.Errorf("Interval of %v, %d, %v: %d %d, and of the opposite tail: %d %d", h, bound, tail, lo, hi, first, last)
				}
			}
		}
	}
}

// P10.5: if v is an integer, the interval contains it, also with the least bound.
func TestIntervalAroundInteger(t *testing.T) {
	random := rand.New(rand.NewPCG(15, 16))
	for _, h := range forms() {
		c := complementsOf(h)
		m, _ := matrix.FromInts(h)
		minors, _ := bareiss.Leading(m)
		for length := range len(h) {
			for range 5 {
				factor, _ := integer.Int64(minors[len(h)-length-1])
				tail := make([]int64, length)
				for i := range tail {
					tail[i] = factor * (random.Int64N(101) - 50)
				}
				v, norm := c.least(tail), c.norm(tail)
				if !v.IsInt() {
					t.Fatalf("%v is no integer", v)
				}
				bound := ceiling(norm)
				lo, hi := interval(t, h, bound, tail)
				if n := v.Num().Int64(); n < lo || n > hi || norm.IsInt() && lo != hi {
					t.Errorf("Interval of %v, %d, %v: %d %d, around %v", h, bound, tail, lo, hi, v)
				}
			}
		}
	}
}

// P10.5: the partial norm as a polynomial in the first coordinate, with the entries of the stage.
func TestPartialNormFromStages(t *testing.T) {
	random := rand.New(rand.NewPCG(17, 18))
	for _, h := range forms() {
		m, _ := matrix.FromInts(h)
		stages, _ := bareiss.Stages(m)
		for k, stage := range stages {
			divisor := integer.Small(1)
			if k > 0 {
				divisor = stages[k-1][0][0]
			}
			tail := tailOf(random, len(h)-k)
			if want, _ := rational.New(polynomial(stage, tail), divisor); rational.Cmp(partialNorm(t, h, tail), want) != 0 {
				t.Errorf("PartialNorm of %v, %v is not %s", h, tail, rational.Format(want))
			}
		}
	}
}

// polynomial returns b_00 x^2 + 2 (sum of b_0j y_(j-1)) x + y'cy, with the entries b of a stage and c, the part of b behind the first row and column, for the tail (x, y).
func polynomial(b [][]api.Int, tail []int64) api.Int {
	x := integer.Small(tail[0])
	slope, rest := api.Int{}, api.Int{}
	for j, n := range tail[1:] {
		y := integer.Small(n)
		slope = integer.Add(slope, integer.Mul(integer.Small(2), integer.Mul(b[0][j+1], y)))
		for i, m := range tail[1:] {
			rest = integer.Add(rest, integer.Mul(b[i+1][j+1], integer.Mul(y, integer.Small(m))))
		}
	}
	return integer.Add(integer.Mul(integer.Add(integer.Mul(b[0][0], x), slope), x), rest)
}

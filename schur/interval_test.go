package schur_test

import (
	"math"
	"math/big"
	"math/rand/v2"
	"slices"
	"testing"

	"quadform/api"
	"quadform/schur"
)

// expectInterval compares Interval with the definition, for a tail with a partial norm of at most bound. It returns whether the interval is empty.
func expectInterval(t *testing.T, h ints, c complements, bound int64, tail []int64) bool {
	t.Helper()
	lo, hi, ok := schur.Interval(h, bound, tail)
	below, above := c.within(bound, with(lo-1, tail)), c.within(bound, with(hi+1, tail))
	right := lo <= hi && c.within(bound, with(lo, tail)) && c.within(bound, with(hi, tail))
	if hi == lo-1 {
		right = c.least(tail).Cmp(whole(hi)) > 0 && c.least(tail).Cmp(whole(lo)) < 0
	}
	if !ok || !right || below || above {
		t.Errorf("Interval of %v, %d, %v: %d %d %v", h, bound, tail, lo, hi, ok)
	}
	return lo > hi
}

// expectNoInterval checks that there is no value.
func expectNoInterval(t *testing.T, h ints, bound int64, tail []int64) {
	t.Helper()
	if lo, hi, ok := schur.Interval(h, bound, tail); ok || lo != 0 || hi != 0 {
		t.Errorf("Interval of %v, %d, %v: %d %d %v", h, bound, tail, lo, hi, ok)
	}
}

// ceiling returns the least integer that is not less than a.
func ceiling(a *big.Rat) int64 {
	quotient, _ := new(big.Int).DivMod(new(big.Int).Neg(a.Num()), a.Denom(), new(big.Int))
	return -quotient.Int64()
}

// P10.2: tails of all lengths, with the least bounds for which they have an interval, and with greater ones.
func TestInterval(t *testing.T) {
	random := rand.New(rand.NewPCG(5, 6))
	empty := 0
	for _, h := range forms() {
		c := complementsOf(h)
		for m := range len(h) {
			for range 20 {
				tail := make([]int64, m)
				for i := range tail {
					tail[i] = (random.Int64N(2)*2 - 1) * random.Int64N(int64(2)<<random.IntN(12))
				}
				least := ceiling(c.norm(tail))
				expectNoInterval(t, h, least-1, tail)
				for _, bound := range []int64{least, least + 1, least + random.Int64N(20), least + random.Int64N(1<<40), api.MaxNorm - random.Int64N(5)} {
					if expectInterval(t, h, c, bound, tail) {
						empty++
					}
				}
			}
		}
	}
	if empty < 400 {
		t.Errorf("only %d intervals are empty", empty)
	}
}

// P10.2: all tails up to a small bound.
func TestIntervalsOfTrees(t *testing.T) {
	for _, h := range forms() {
		c := complementsOf(h)
		for _, bound := range []int64{0, 1, 2, 3, 4, 24} {
			left := 150
			var walk func(tail []int64)
			walk = func(tail []int64) {
				if left--; left < 0 || len(tail) == len(h) {
					return
				}
				expectInterval(t, h, c, bound, tail)
				values := c.values(bound, tail)
				lo, hi, _ := schur.Interval(h, bound, tail)
				if int64(len(values)) != hi-lo+1 || len(values) > 0 && values[0] != lo {
					t.Errorf("Interval of %v, %d, %v: %d %d, want %v", h, bound, tail, lo, hi, values)
				}
				expectNoInterval(t, h, bound, with(lo-1, tail))
				expectNoInterval(t, h, bound, with(hi+1, tail))
				for _, x := range values {
					walk(with(x, tail))
				}
			}
			walk(nil)
		}
	}
}

// P10.2: the bounds next to the partial norm of a tail and a further coordinate.
func TestIntervalAtItsEnds(t *testing.T) {
	random := rand.New(rand.NewPCG(7, 8))
	for _, h := range forms() {
		c := complementsOf(h)
		for m := range len(h) {
			for range 20 {
				tail := make([]int64, m+1)
				for i := range tail {
					tail[i] = (random.Int64N(2)*2 - 1) * random.Int64N(int64(1)<<random.IntN(24))
				}
				bound := ceiling(c.norm(tail))
				if bound > api.MaxNorm {
					t.Fatalf("%v, %v: the bound %d is too great", h, tail, bound)
				}
				expectInterval(t, h, c, bound, tail[1:])
				lo, hi, _ := schur.Interval(h, bound, tail[1:])
				if tail[0] < lo || tail[0] > hi {
					t.Errorf("Interval of %v, %d, %v: %d %d does not contain %d", h, bound, tail[1:], lo, hi, tail[0])
				}
				if c.within(bound-1, tail[1:]) && bound > 0 {
					expectInterval(t, h, c, bound-1, tail[1:])
					if lo, hi, _ := schur.Interval(h, bound-1, tail[1:]); lo <= tail[0] && tail[0] <= hi {
						t.Errorf("Interval of %v, %d, %v: %d %d contains %d", h, bound-1, tail[1:], lo, hi, tail[0])
					}
				}
			}
		}
	}
}

// P10.2, P10.4: tails at the ends of the intervals with the greatest bounds.
func TestIntervalOfLongTails(t *testing.T) {
	random := rand.New(rand.NewPCG(9, 10))
	for _, h := range forms() {
		c := complementsOf(h)
		for range 30 {
			bound := int64(api.MaxNorm) - random.Int64N(3)
			var tail []int64
			for len(tail) < len(h) {
				if expectInterval(t, h, c, bound, tail) {
					break
				}
				lo, hi, _ := schur.Interval(h, bound, tail)
				if lo <= -1<<38 || hi >= 1<<38 {
					t.Errorf("Interval of %v, %d, %v: %d %d", h, bound, tail, lo, hi)
				}
				if len(tail) < len(h)-1 {
					expectNoInterval(t, h, bound, with(lo-1, tail))
					expectNoInterval(t, h, bound, with(hi+1, tail))
				}
				tail = with([]int64{lo, hi, lo + random.Int64N(hi-lo+1), 0}[random.IntN(4)], tail)
				if !c.within(bound, tail) {
					tail[0] = lo
				}
			}
		}
	}
}

// P10.2: forms of one vector, with bounds next to multiples of squares.
func TestIntervalAtSquares(t *testing.T) {
	random := rand.New(rand.NewPCG(21, 22))
	for _, entry := range []int64{1, 2, 3, 9999, 10000} {
		for exponent := range 24 {
			for _, root := range []int64{1 << exponent, 1<<exponent + 1, 1<<exponent + random.Int64N(1<<exponent)} {
				for offset := int64(-1); offset <= 1; offset++ {
					want := root
					if offset < 0 {
						want--
					}
					if lo, hi, ok := schur.Interval(ints{{entry}}, entry*root*root+offset, nil); !ok || hi != want || lo != -want {
						t.Errorf("Interval of %d, %d: %d %d %v", entry, entry*root*root+offset, lo, hi, ok)
					}
				}
			}
		}
	}
	for root := int64(1<<31 - 1); root > 0; root -= 1 + random.Int64N(1<<24) {
		for _, c := range []struct{ bound, want int64 }{{root*root - 1, root - 1}, {root * root, root}, {root*root + 2*root, root}} {
			if lo, hi, ok := schur.Interval(ints{{1}}, c.bound, nil); !ok || hi != c.want || lo != -c.want {
				t.Errorf("Interval of 1, %d: %d %d %v", c.bound, lo, hi, ok)
			}
		}
	}
}

// P10.2: the numbers themselves.
func TestIntervalByHand(t *testing.T) {
	const most = int64(api.MaxNorm)
	for _, c := range []struct {
		h      ints
		bound  int64
		tail   []int64
		lo, hi int64
	}{
		{hexagon(), 2, nil, -1, 1}, {hexagon(), 2, []int64{}, -1, 1}, {hexagon(), 2, []int64{1}, -1, 0}, {hexagon(), 2, []int64{-1}, 0, 1}, {hexagon(), 1, nil, 0, 0}, {hexagon(), 0, nil, 0, 0}, {hexagon(), 0, []int64{0}, 0, 0}, {hexagon(), 6, []int64{2}, -1, -1}, {hexagon(), 6, []int64{-2}, 1, 1}, {hexagon(), 7, []int64{2}, -1, -1}, {hexagon(), 8, []int64{2}, -2, 0},
		{ints{{4, 2}, {2, 4}}, 3, []int64{1}, 0, -1}, {ints{{4, 2}, {2, 4}}, 3, []int64{-1}, 1, 0}, {ints{{3, 1}, {1, 3}}, 3, []int64{1}, 0, 0}, {ints{{7, 3}, {3, 7}}, 6, []int64{1}, 0, -1}, {ints{{7, 3}, {3, 7}}, 6, []int64{-1}, 1, 0}, {ints{{7, 3}, {3, 7}}, 7, []int64{-1}, 0, 0}, {ints{{7, 3}, {3, 7}}, 206, []int64{6}, -2, -3}, {ints{{7, 3}, {3, 7}}, 206, []int64{-6}, 3, 2}, {ints{{7, -3}, {-3, 7}}, 206, []int64{6}, 3, 2}, {ints{{7, 3}, {3, 7}}, 207, []int64{6}, -3, -3},
		{ints{{1}}, 0, nil, 0, 0}, {ints{{1}}, 1, nil, -1, 1}, {ints{{1}}, 3, nil, -1, 1}, {ints{{1}}, 4, nil, -2, 2}, {ints{{2}}, 1, nil, 0, 0}, {ints{{10000}}, 9999, nil, 0, 0}, {ints{{10000}}, 10000, nil, -1, 1},
		{ints{{1}}, most, nil, -(1 << 31), 1 << 31}, {ints{{1}}, most - 1, nil, -(1<<31 - 1), 1<<31 - 1}, {unit(8), most, nil, -(1 << 31), 1 << 31}, {unit(2), most, []int64{1 << 31}, 0, 0}, {unit(2), most, []int64{1<<31 - 1}, -65535, 65535}, {unit(3), most, []int64{0, -1 << 31}, 0, 0}, {unit(8), most, []int64{1 << 30, -1 << 30, 1 << 30}, -(1 << 30), 1 << 30},
		{unit(2), 25, []int64{3}, -4, 4}, {unit(2), 24, []int64{3}, -3, 3}, {unit(2), 25, []int64{-5}, 0, 0}, {diagonal(2, 3, 5, 7), 33, []int64{1, -2}, 0, 0}, {diagonal(2, 3, 5, 7), 36, []int64{1, -2}, -1, 1}, {diagonal(2, 3, 5, 7), 33, []int64{0, -2}, -1, 1},
	} {
		lo, hi, ok := schur.Interval(c.h, c.bound, c.tail)
		if !ok || lo != c.lo || hi != c.hi {
			t.Errorf("Interval of %v, %d, %v: %d %d %v, want %d %d", c.h, c.bound, c.tail, lo, hi, ok, c.lo, c.hi)
		}
	}
}

// P10.2: tails that are too long, bounds out of range, and tails with a partial norm greater than the bound.
func TestIntervalErrors(t *testing.T) {
	bounds := []int64{0, 1, 5, api.MaxNorm}
	for _, h := range forms() {
		n := len(h)
		for _, bound := range []int64{-1, math.MinInt64, api.MaxNorm + 1, math.MaxInt64} {
			for m := range n + 2 {
				expectNoInterval(t, h, bound, make([]int64, m))
			}
		}
		for _, bound := range bounds {
			for _, tail := range [][]int64{make([]int64, n), make([]int64, n+1), make([]int64, 9), make([]int64, 1000)} {
				expectNoInterval(t, h, bound, tail)
			}
			for m := range n {
				for place := range m {
					for _, wrong := range []int64{top, -top, top + 1, -top - 1, math.MaxInt64, math.MinInt64, 1 << 38, -1 << 38} {
						tail := make([]int64, m)
						tail[place] = wrong
						expectNoInterval(t, h, bound, tail)
					}
				}
				expectNoInterval(t, h, bound, slices.Repeat([]int64{top}, m+1))
			}
		}
	}
	for _, h := range notReduced() {
		for _, bound := range bounds {
			for m := range 10 {
				expectNoInterval(t, h, bound, make([]int64, m))
			}
		}
	}
	for _, c := range []struct {
		h     ints
		bound int64
		tail  []int64
	}{{hexagon(), 1, []int64{1}}, {hexagon(), 5, []int64{-2}}, {hexagon(), 0, []int64{1}}, {unit(2), api.MaxNorm, []int64{1<<31 + 1}}, {unit(2), api.MaxNorm - 1, []int64{1 << 31}}, {unit(3), 2, []int64{1, -2}}, {unit(8), 5, []int64{1, 1, 1, 1, 1, 1}}} {
		expectNoInterval(t, c.h, c.bound, c.tail)
	}
}

package schur

import "math/bits"

// wide is an integer from 0 to 2^128 - 1.
type wide struct {
	high, low uint64
}

// widen returns n, which must not be negative.
func widen(n int64) wide {
	return wide{low: uint64(n)}
}

// square returns the square of n.
func square(n int64) wide {
	size := uint64(max(n, -n))
	high, low := bits.Mul64(size, size)
	return wide{high: high, low: low}
}

// times returns w n, for an n that is not negative.
func (w wide) times(n int64) wide {
	high, low := bits.Mul64(w.low, uint64(n))
	return wide{high: high + w.high*uint64(n), low: low}
}

// minus returns w - a; false if it is negative.
func (w wide) minus(a wide) (wide, bool) {
	low, borrow := bits.Sub64(w.low, a.low, 0)
	high, borrow := bits.Sub64(w.high, a.high, borrow)
	return wide{high: high, low: low}, borrow == 0
}

// over returns the floor of w / n, for a positive n.
func (w wide) over(n int64) wide {
	divisor := uint64(n)
	low, _ := bits.Div64(w.high%divisor, w.low, divisor)
	return wide{high: w.high / divisor, low: low}
}

// root returns the floor of the square root of a w below 2^124, by Newton's iteration, which falls until it is reached.
func (w wide) root() int64 {
	if w == (wide{}) {
		return 0
	}
	size := bits.Len64(w.low)
	if w.high > 0 {
		size = 64 + bits.Len64(w.high)
	}
	root := uint64(1) << ((size + 1) / 2)
	for {
		quotient, _ := bits.Div64(w.high, w.low, root)
		mean := (root + quotient) / 2
		if mean >= root {
			return int64(root)
		}
		root = mean
	}
}

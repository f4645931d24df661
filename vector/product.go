package vector

import (
	"math/bits"

	"quadform/api"
)

// wide is an integer modulo 2^128, in two's complement.
//
// Inner products of vectors of a reduced form are below 2^127 in absolute value:
// by P8.4 the product of the diagonal entries, which are at least 1, is at most
// 2^28 MaxDet < 2^42. So each of them is below 2^42, and each entry beside them
// is below 2^21, since the form is positive definite. The absolute values of all
// entries have a sum below 2^46, and two coordinates have a product of at most
// 2^80.
type wide struct {
	high, low uint64
}

// widen returns n.
func widen(n int64) wide {
	return wide{high: uint64(n >> 63), low: uint64(n)}
}

// plus returns w + a n.
func (w wide) plus(a wide, n int64) wide {
	factor := widen(n)
	high, low := bits.Mul64(a.low, factor.low)
	high += a.high*factor.low + a.low*factor.high
	low, carry := bits.Add64(w.low, low, 0)
	high, _ = bits.Add64(w.high, high, carry)
	return wide{high: high, low: low}
}

// limited returns w; false if it is beyond -MaxNorm to MaxNorm.
func (w wide) limited() (int64, bool) {
	n := int64(w.low)
	if widen(n) != w || n < -api.MaxNorm || n > api.MaxNorm {
		return 0, false
	}
	return n, true
}

// inner returns the inner product of two vectors; false if it is beyond -MaxNorm to MaxNorm.
func inner(h [][]int64, x, y []int64) (int64, bool) {
	var total wide
	for i, row := range h {
		var image wide
		for j, entry := range row {
			image = image.plus(widen(entry), x[j])
		}
		total = total.plus(image, y[i])
	}
	return total.limited()
}

// products returns the inner products of vectors whose norms are at most MaxNorm.
// Their absolute values are then at most MaxNorm, too (P9.10), so that they are right even if sums and products on the way to them overflow.
func products(h, l [][]int64) [][]int64 {
	m := make([][]int64, len(l))
	image := make([]int64, len(h))
	for i, x := range l {
		for k, row := range h {
			image[k] = dot(row, x)
		}
		m[i] = make([]int64, len(l))
		for j, y := range l[:i+1] {
			m[i][j] = dot(image, y)
			m[j][i] = m[i][j]
		}
	}
	return m
}

// dot returns the sum of the products of the elements at the same places, modulo 2^64.
func dot(x, y []int64) int64 {
	sum := int64(0)
	for i, n := range x {
		sum += n * y[i]
	}
	return sum
}

package schur

import "quadform/api"

// echelon contains the leading minors of a reduced form and the first rows of its stages (chapter 4). It consists of machine words because the layers above ask for an interval at each step of an enumeration.
//
// The minors are below 2^16, and the entries of all stages below 2^24 in
// absolute value. For let g_i = d_(i+1) / d_i. The conditions 3 and 4 of a
// reduced form say that g_i <= 2 g_(i+1). The product of g_i <= 2^(j-i) g_j over
// all i < k and k <= j < m says that d_k^m <= 2^(k(m-k)m/2) d_m^k. So d_k is at
// most 2^(k(n-k)/2) times the power of MaxDet with exponent k/n, which is at most
// 64000 (for n = 8 and k = 6); and d_k <= 2^6 d_m for k <= m < MaxDim, as
// d_m >= 1. Hence d_k g_m = d_(m+1) d_k / d_m is below 2^22. A diagonal entry of
// stage k is at most the sum of d_k g_m for one m >= k and of d_k g_m / 4 for at
// most seven others. The entries beside the diagonal are at most the greatest
// ones on it, because stage k is positive definite.
type echelon struct {
	size   int
	minors [api.MaxDim + 1]int64         // d_0, .., d_n
	rows   [api.MaxDim][api.MaxDim]int64 // entry j >= k of row k is entry (0, j-k) of stage k
}

// newEchelon returns the echelon of a reduced form.
func newEchelon(h [][]int64) echelon {
	e := echelon{size: len(h)}
	for i, row := range h {
		copy(e.rows[i][:], row)
	}
	e.minors[0] = 1
	for k := range e.size {
		e.minors[k+1] = e.rows[k][k]
		e.eliminate(k)
	}
	return e
}

// eliminate goes from stage k, in the upper triangle of the rows from k on, to stage k+1.
func (e *echelon) eliminate(k int) {
	top := e.rows[k]
	for i := k + 1; i < e.size; i++ {
		for j := i; j < e.size; j++ {
			e.rows[i][j] = (top[k]*e.rows[i][j] - top[i]*top[j]) / e.minors[k]
		}
	}
}

// image returns the product of row k and the coordinates from k on. Its square divided by d_k d_(k+1) is what coordinate k adds to the partial norm (the square is completed in the polynomial of P10.5).
//
// It is below 2^59 for coordinates of at most MaxCoord, since none of the other
// entries of the row is greater than half of the first one.
func (e *echelon) image(k int, x *[api.MaxDim]int64) int64 {
	sum := int64(0)
	for j := k; j < e.size; j++ {
		sum += e.rows[k][j] * x[j]
	}
	return sum
}

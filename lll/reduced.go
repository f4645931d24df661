package lll

import "quadform/api"

// limit is greater than the absolute values of all entries of all stages (chapter 4) of a reduced form, and the products of two numbers below it fit in an int64.
//
// Let g_i = d_(i+1) / d_i. Conditions 3 and 4 say that g_i <= 2 g_(i+1). The
// product of g_i <= 2^(j-i) g_j over all i < k and k <= j < m says that
// d_k^m <= 2^(k(m-k)m/2) d_m^k, and so d_k <= 2^(k(m-k)/2) d_m, as d_m >= 1.
// Hence d_(m+1) <= 2^8 MaxDet, and d_k <= 2^6 d_m for m < MaxDim, so that
// d_k g_m = d_(m+1) d_k / d_m <= 2^14 MaxDet. A diagonal entry of stage k is at
// most the sum of d_k g_m for one m >= k and of d_k g_m / 4 for seven others.
// The entries beside the diagonal are at most the greatest ones on it, because
// stage k is positive definite.
const limit = 1 << 30

// stage is the lower triangle of a symmetric matrix with size rows, on the way through its elimination: behind k steps its rows and columns from k on are stage k.
// It is an array of machine words because the layers above check each form at each call.
type stage struct {
	size    int
	entries [api.MaxDim][api.MaxDim]int64
}

// IsReduced reports whether h is a reduced form.
func IsReduced(h [][]int64) bool {
	s := stage{size: len(h)}
	if !s.read(h) {
		return false
	}
	minor := int64(1)
	for k := range s.size {
		if !s.reducedAt(k) || !s.eliminate(k, minor) {
			return false
		}
		minor = s.entries[k][k]
	}
	return minor <= api.MaxDet
}

// read copies h, the number of whose rows is the size; false if the size is out of range, h is not symmetric or an entry is beyond the limit.
func (s *stage) read(h [][]int64) bool {
	if s.size < 1 || s.size > api.MaxDim {
		return false
	}
	for _, row := range h {
		if len(row) != s.size {
			return false
		}
	}
	for i, row := range h {
		for j, entry := range row[:i+1] {
			if entry != h[j][i] || !belowLimit(entry) {
				return false
			}
			s.entries[i][j] = entry
		}
	}
	return true
}

// reducedAt reports whether the conditions hold for the minor d_(k+1), for lambda(i, k) and for the vectors k and k+1.
func (s *stage) reducedAt(k int) bool {
	minor := s.entries[k][k]
	if minor <= 0 {
		return false
	}
	for i := k + 1; i < s.size; i++ {
		if 2*max(s.entries[i][k], -s.entries[i][k]) > minor {
			return false
		}
	}
	// Entry (1, 1) of stage k times d_(k+1) is d_k d_(k+2) + lambda(k+1, k)^2.
	return k+1 == s.size || 4*s.entries[k+1][k+1] >= 3*minor
}

// eliminate goes from stage k to stage k+1; minor is d_k. It returns false if an entry is beyond the limit.
func (s *stage) eliminate(k int, minor int64) bool {
	for i := k + 1; i < s.size; i++ {
		for j := k + 1; j <= i; j++ {
			entry := (s.entries[k][k]*s.entries[i][j] - s.entries[i][k]*s.entries[j][k]) / minor
			if !belowLimit(entry) {
				return false
			}
			s.entries[i][j] = entry
		}
	}
	return true
}

func belowLimit(entry int64) bool {
	return -limit < entry && entry < limit
}

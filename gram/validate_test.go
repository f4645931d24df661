package gram_test

import (
	"math/rand/v2"
	"testing"

	"quadform/api"
	"quadform/gram"
)

// P7.1
func TestValidate(t *testing.T) {
	for _, g := range forms() {
		if e := gram.Validate(g); e != api.OK {
			t.Errorf("Validate of %v: %d", g, e)
		}
	}
	for _, c := range wrongs() {
		if e := gram.Validate(c.g); e != c.e {
			t.Errorf("Validate of %v: %d, want %d", c.g, e, c.e)
		}
	}
}

// P7.1: limbs that are 0 at the end, and a negative 0, make no entries different.
func TestValidateOfNumbersThatAreNotCanonical(t *testing.T) {
	zero, negative := api.Int{}, api.Int{Neg: true, Mag: []uint32{0, 0}}
	three := func(zeros int) api.Int { return api.Int{Mag: append([]uint32{3}, make([]uint32, zeros)...)} }
	for _, g := range [][][]api.Int{{{three(0), zero}, {negative, three(1)}}, {{three(2), negative}, {zero, three(0)}}, {{api.Int{Mag: []uint32{5, 0}}, three(1)}, {three(0), three(5)}}} {
		if e := gram.Validate(g); e != api.OK {
			t.Errorf("Validate of %v: %d", g, e)
		}
	}
	for _, a := range []api.Int{zero, negative, {Neg: true, Mag: []uint32{3, 0}}, {Mag: []uint32{0}}} {
		if e := gram.Validate([][]api.Int{{a}}); e != api.ErrDefinite {
			t.Errorf("Validate of the entry %v: %d", a, e)
		}
	}
}

// forTiny calls f with all matrices of n rows and columns with entries from low to high.
func forTiny(n int, low, high int64, f func(l ints)) {
	l := zeros(n, n)
	var fill func(place int)
	fill = func(place int) {
		if place == n*n {
			f(l)
			return
		}
		for entry := low; entry <= high; entry++ {
			l[place/n][place%n] = entry
			fill(place + 1)
		}
	}
	fill(0)
}

// firstError returns the error of a square matrix of at most 3 rows: by its norms, if it is symmetric.
// If it is not positive definite, a row of an adjugate has a norm of at most 0: the entries of such a row are at most bound.
func firstError(l ints, bound int64) api.Errno {
	for i := range l {
		for j := range i {
			if l[i][j] != l[j][i] {
				return api.ErrSymmetric
			}
		}
	}
	x := make([]int64, len(l))
	var positive func(i int) bool
	positive = func(i int) bool {
		if i == len(l) {
			norm, zero := int64(0), true
			for j := range l {
				zero = zero && x[j] == 0
				for k := range l {
					norm += x[j] * l[j][k] * x[k]
				}
			}
			return zero || norm > 0
		}
		for x[i] = -bound; x[i] <= bound; x[i]++ {
			if !positive(i + 1) {
				return false
			}
		}
		return true
	}
	if !positive(0) {
		return api.ErrDefinite
	}
	return api.OK
}

// P7.1
func TestValidateOfTinyMatrices(t *testing.T) {
	check := func(bound int64) func(l ints) {
		return func(l ints) {
			if e, want := gram.Validate(of(l)), firstError(l, bound); e != want {
				t.Errorf("Validate of %v: %d, want %d", l, e, want)
			}
		}
	}
	forTiny(1, -3, 3, check(1))
	forTiny(2, -4, 4, check(4))
	forTiny(3, -1, 1, check(2))
	random := rand.New(rand.NewPCG(13, 14))
	for range 300 { // symmetric matrices that are often positive definite
		entry := func(least, greatest int64) int64 { return least + random.Int64N(greatest-least+1) }
		a, b, c := entry(-2, 2), entry(-2, 2), entry(-2, 2)
		check(16)(ints{{entry(1, 4), a, b}, {a, entry(1, 4), c}, {b, c, entry(1, 4)}})
	}
}

// P7.2, P7.4 to P7.8: the error of the Gram matrix comes ahead of all others, with no other result.
func TestErrorsOfForm(t *testing.T) {
	badVectors := [][]api.Int{nil, {}, list(1), list(1, 1), make([]api.Int, 9)}
	badMatrices := [][][]api.Int{nil, {{}}, of(zeros(1, 1)), of(zeros(2, 2)), of(unit(3)), of(zeros(20, 20))}
	for _, c := range wrongs() {
		expectNumber := func(what string, got api.Int, e api.Errno) {
			t.Helper()
			if e != c.e || !isZero(got) {
				t.Errorf("%s of %v: %v, %d, want the error %d", what, c.g, got, e, c.e)
			}
		}
		if text, e := gram.Format(c.g); e != c.e || text != "" {
			t.Errorf("Format of %v: %q, %d, want the error %d", c.g, text, e, c.e)
		}
		for _, x := range append(badVectors, make([]api.Int, len(c.g))) {
			norm, e := gram.Norm(c.g, x)
			expectNumber("Norm", norm, e)
			product, e := gram.Inner(c.g, x, badVectors[0])
			expectNumber("Inner", product, e)
			product, e = gram.Inner(c.g, badVectors[2], x)
			expectNumber("Inner", product, e)
		}
		det, e := gram.Det(c.g)
		expectNumber("Det", det, e)
		content, e := gram.Content(c.g)
		expectNumber("Content", content, e)
		if even, e := gram.Even(c.g); e != c.e || even {
			t.Errorf("Even of %v: %v, %d, want the error %d", c.g, even, e, c.e)
		}
		for _, m := range append(badMatrices, of(unit(max(1, len(c.g))))) {
			changed, e := gram.Transform(c.g, m)
			expectError(t, "Transform", changed, e, c.e)
		}
		for _, n := range []int64{-1, 0, 1} {
			multiple, e := gram.Scale(c.g, small(n))
			expectError(t, "Scale", multiple, e, c.e)
		}
		adjugate, det, e := gram.Dual(c.g)
		expectError(t, "Dual", adjugate, e, c.e)
		expectNumber("Dual", det, e)
	}
}

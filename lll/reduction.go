package lll

import (
	"quadform/api"
	"quadform/integer"
	"quadform/matrix"
)

// reduction is the state of the LLL algorithm: a basis of the lattice, and the numbers that the conditions of a reduced form are about, for its Gram matrix.
// They are the entries of the stages of chapter 4, which stay integers.
type reduction struct {
	minors  []api.Int      // d_0, .., d_n
	lambda  [][]api.Int    // row i: lambda(i, 0), .., lambda(i, i-1)
	basis   [][]api.Int    // row i: the coordinates of basis vector i
	shorten func(i, j int) // size reduction: subtracts a multiple of basis vector j < i from basis vector i
}

// newReduction returns the state for the basis whose Gram matrix has these stages, whose numbers it keeps.
func newReduction(stages [][][]api.Int) *reduction {
	n := len(stages)
	r := &reduction{minors: []api.Int{integer.Small(1)}, lambda: make([][]api.Int, n)}
	r.basis, _ = matrix.Identity(n)
	r.shorten = r.subtractNearest
	for k, stage := range stages {
		r.minors = append(r.minors, stage[0][0])
		for i, row := range stage[1:] {
			r.lambda[k+1+i] = append(r.lambda[k+1+i], row[0])
		}
	}
	return r
}

// run reduces the basis. It ends because each change of a pair makes d_k, and with it the product of all minors, less by a quarter or more.
func (r *reduction) run() {
	for k := 1; k < len(r.basis); {
		for j := k - 1; j >= 0; j-- {
			r.shorten(k, j)
		}
		if p := r.pairAt(k); p.inOrder() {
			k++
		} else {
			r.change(k, p)
			k = max(1, k-1)
		}
	}
}

// subtractNearest subtracts the multiple of basis vector j that makes 2 |lambda(i, j)| <= d_(j+1).
func (r *reduction) subtractNearest(i, j int) {
	q := nearest(r.lambda[i][j], r.minors[j+1])
	if integer.Sign(q) == 0 {
		return
	}
	r.lambda[i][j] = integer.Sub(r.lambda[i][j], integer.Mul(q, r.minors[j+1]))
	subtract(r.lambda[i], q, r.lambda[j])
	subtract(r.basis[i], q, r.basis[j])
}

// pairAt returns the form of the basis vectors k-1 and k.
func (r *reduction) pairAt(k int) *pair {
	b := r.lambda[k][k-1]
	product := integer.Add(integer.Mul(r.minors[k-1], r.minors[k+1]), integer.Mul(b, b))
	return newPair(r.minors[k], b, quotient(product, r.minors[k]))
}

// change replaces the basis vectors k-1 and k by those that reduce their form p. It changes p.
func (r *reduction) change(k int, p *pair) {
	below, a, b := r.minors[k-1], p.a, p.b
	p.reduce()
	p.changeLists(r.basis[k-1], r.basis[k])
	p.changeLists(r.lambda[k-1], r.lambda[k])
	for _, row := range r.lambda[k+1:] {
		// The entries beside each other in stage k-1 change as the vectors do:
		// so the second one is found from stage k, and stage k from both.
		second := quotient(integer.Add(integer.Mul(below, row[k]), integer.Mul(b, row[k-1])), a)
		row[k-1], second = p.changed(row[k-1], second)
		row[k] = quotient(integer.Sub(integer.Mul(p.a, second), integer.Mul(p.b, row[k-1])), below)
	}
	r.minors[k], r.lambda[k][k-1] = p.a, p.b
}

// nearest returns an integer q such that a - q b is from -b/2 to b/2, for a positive b; 0 if that is one.
func nearest(a, b api.Int) api.Int {
	double := integer.Add(a, a)
	if integer.Cmp(api.Int{Mag: double.Mag}, b) <= 0 {
		return api.Int{}
	}
	return quotient(integer.Add(double, b), integer.Add(b, b))
}

// quotient returns the floor of a / b, for a positive b.
func quotient(a, b api.Int) api.Int {
	q, _, _ := integer.DivMod(a, b)
	return q
}

// subtract subtracts q y from the beginning of x.
func subtract(x []api.Int, q api.Int, y []api.Int) {
	for i := range y {
		x[i] = integer.Sub(x[i], integer.Mul(q, y[i]))
	}
}

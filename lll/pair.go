package lll

import (
	"quadform/api"
	"quadform/integer"
)

// pair is the positive definite form ((a, b), (b, c)) of two neighbouring basis vectors k-1 and k: the first rows and columns of stage k-1 (chapter 4).
// Its basis is reduced completely before the change is applied to the other numbers, which may be much longer than its quotients are.
type pair struct {
	a, b, c       api.Int
	first, second []api.Int // the coordinates of its present basis in the one at the beginning
}

func newPair(a, b, c api.Int) *pair {
	zero, one := integer.Small(0), integer.Small(1)
	return &pair{a: a, b: b, c: c, first: []api.Int{one, zero}, second: []api.Int{zero, one}}
}

// inOrder reports whether Lovasz's condition holds: 4 c >= 3 a.
func (p *pair) inOrder() bool {
	return integer.Cmp(integer.Mul(integer.Small(4), p.c), integer.Mul(integer.Small(3), p.a)) >= 0
}

// reduce changes the basis so that 2 |b| <= a <= c, if 2 |b| <= a at the beginning (Gauss).
func (p *pair) reduce() {
	for integer.Cmp(p.c, p.a) < 0 {
		p.a, p.c = p.c, p.a
		p.first, p.second = p.second, p.first
		p.shortenSecond()
	}
}

// shortenSecond subtracts the multiple of the first vector from the second one that makes 2 |b| <= a.
func (p *pair) shortenSecond() {
	q := nearest(p.b, p.a)
	rest := integer.Sub(p.b, integer.Mul(q, p.a))
	p.c = integer.Sub(p.c, integer.Mul(q, integer.Add(p.b, rest)))
	p.b = rest
	subtract(p.second, q, p.first)
}

// changed returns the values of a linear function at the present basis, if x and y are those at the basis of the beginning.
func (p *pair) changed(x, y api.Int) (api.Int, api.Int) {
	at := func(vector []api.Int) api.Int {
		return integer.Add(integer.Mul(vector[0], x), integer.Mul(vector[1], y))
	}
	return at(p.first), at(p.second)
}

// changeLists applies changed to the entries of x and those of y beside them.
func (p *pair) changeLists(x, y []api.Int) {
	for i := range x {
		x[i], y[i] = p.changed(x[i], y[i])
	}
}

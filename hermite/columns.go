package hermite

import (
	"slices"

	"quadform/api"
	"quadform/integer"
	"quadform/matrix"
)

// columns are the columns of a matrix in Hermite form, without those that are 0.
type columns struct {
	list [][]api.Int
}

// lattice returns a basis of the column lattice; false if m is not valid.
func lattice(m [][]api.Int) (columns, bool) {
	var c columns
	_, width, ok := matrix.Shape(m)
	if !ok {
		return c, false
	}
	for j := range width {
		c.insert(columnOf(m, j))
	}
	return c, true
}

// insert adds a column to the lattice, and changes it. It is left out if it depends on the others.
//
// The columns are in Hermite form ahead of each insertion, and the new one is
// kept reduced by those that it has yet to pass. So no factor is greater than
// the pivot that it belongs to, and the entries do not grow much longer than
// the minors of the matrix.
func (c *columns) insert(column []api.Int) {
	at := 0
	c.reduce(column, at)
	for ; at < len(c.list) && leading(c.list[at]) <= leading(column); at++ {
		eliminate(c.list[at], column)
		c.reduce(column, at+1)
	}
	if p := leading(column); p < len(column) {
		if integer.Sign(column[p]) < 0 {
			negate(column)
		}
		c.list = slices.Insert(c.list, at, column)
	}
	// The columns that were changed are reduced from the last one to the first, so that each is reduced by columns in Hermite form.
	for j, changed := range slices.Backward(c.list[:min(at+1, len(c.list))]) {
		c.reduce(changed, j+1)
	}
}

// reduce brings the entries of a column in the rows of the pivots, from that of column first on, to at least 0 and less than the pivot.
func (c *columns) reduce(column []api.Int, first int) {
	for _, basis := range c.list[first:] {
		p := leading(basis)
		quotient, _, _ := integer.DivMod(column[p], basis[p])
		if integer.Sign(quotient) != 0 {
			subtract(column, quotient, basis)
		}
	}
}

// index returns the index of the lattice of the first rows; 0 if it has a smaller rank.
func (c *columns) index(rows int) api.Int {
	if len(c.list) < rows {
		return api.Int{}
	}
	product := integer.Small(1)
	for i := range rows {
		product = integer.Mul(product, c.list[i][i]) // the pivot, or 0 if the pivot is farther down
	}
	return product
}

// part returns the matrix of the rows from start to less than end; nil if there are no columns. It keeps the entries.
func (c *columns) part(start, end int) [][]api.Int {
	if len(c.list) == 0 {
		return nil
	}
	m := make([][]api.Int, end-start)
	for i := range m {
		m[i] = make([]api.Int, len(c.list))
		for j, column := range c.list {
			m[i][j] = column[start+i]
		}
	}
	return m
}

// columnOf returns column j of m in canonical Ints.
func columnOf(m [][]api.Int, j int) []api.Int {
	column := make([]api.Int, len(m))
	for i, row := range m {
		column[i] = integer.Normalize(row[j])
	}
	return column
}

// leading returns the row of the first entry that is not 0; the number of rows if there is none.
func leading(column []api.Int) int {
	for i, entry := range column {
		if integer.Sign(entry) != 0 {
			return i
		}
	}
	return len(column)
}

// negate changes the signs of a column.
func negate(column []api.Int) {
	for i, entry := range column {
		column[i] = integer.Neg(entry)
	}
}

// subtract subtracts a multiple of another column.
func subtract(column []api.Int, factor api.Int, other []api.Int) {
	for i, entry := range other {
		column[i] = integer.Sub(column[i], integer.Mul(factor, entry))
	}
}

// eliminate makes the entry of a column in the row of a pivot 0, by a unimodular transformation of both columns. The entry is from 0 to less than the pivot.
func eliminate(basis, column []api.Int) {
	p := leading(basis)
	if integer.Sign(column[p]) == 0 {
		return
	}
	divisor, x, y := bezout(basis[p], column[p])
	a, _, _ := integer.DivMod(basis[p], divisor)
	b, _, _ := integer.DivMod(column[p], divisor)
	for i := p; i < len(basis); i++ {
		first, second := basis[i], column[i]
		basis[i] = integer.Add(integer.Mul(x, first), integer.Mul(y, second))
		column[i] = integer.Sub(integer.Mul(a, second), integer.Mul(b, first))
	}
}

// bezout returns the greatest common divisor of two positive numbers, and factors x and y with which it is x a + y b.
func bezout(a, b api.Int) (api.Int, api.Int, api.Int) {
	// divisor - y b and rest - next b stay multiples of a.
	divisor, rest := a, b
	y, next := integer.Small(0), integer.Small(1)
	for integer.Sign(rest) != 0 {
		quotient, remainder, _ := integer.DivMod(divisor, rest)
		divisor, rest = rest, remainder
		y, next = next, integer.Sub(y, integer.Mul(quotient, next))
	}
	x, _, _ := integer.DivMod(integer.Sub(divisor, integer.Mul(y, b)), a)
	return divisor, x, y
}

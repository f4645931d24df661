package matrix

import (
	"quadform/api"
	"quadform/integer"
)

// elimination is the fraction-free elimination of a square matrix, after k
// steps. Entry (i, j) of rows is the determinant of the first k rows and
// columns of the matrix with its row k+i and its column k+j; so the entries
// stay integers, and they grow no longer than determinants are.
type elimination struct {
	rows  [][]api.Int
	pivot api.Int // the determinant of the first k rows and columns
	odd   bool    // the number of exchanges of rows and of columns is odd
}

// eliminate takes n steps, with pivots from the first n rows and columns, and changes rows.
// It returns the determinant of these rows and columns, and the matrix of the determinants that they make with one further row and one further column.
func eliminate(rows [][]api.Int, n int) (api.Int, [][]api.Int) {
	rest := len(rows) - n
	e := elimination{rows: rows, pivot: integer.Small(1)}
	for size := n; size > 0; size-- {
		// The last pivot may be 0, since nothing is divided by it. Without an
		// earlier one, the first n rows and columns have a rank of at most n - 2,
		// and of at most n with a further row and a further column.
		if !e.bringPivot(size) && size > 1 {
			return integer.Small(0), build(rest, rest, func(i, j int) api.Int { return integer.Small(0) })
		}
		e.step()
	}
	return e.signed(e.pivot), build(rest, rest, func(i, j int) api.Int { return e.signed(e.rows[i][j]) })
}

// bringPivot exchanges rows and columns so that entry (0, 0) is not 0; false if there is no such entry in the first size rows and columns.
func (e *elimination) bringPivot(size int) bool {
	for i := range size {
		for j := range size {
			if integer.Sign(e.rows[i][j]) != 0 {
				e.exchangeRows(i)
				e.exchangeColumns(j)
				return true
			}
		}
	}
	return false
}

// exchangeRows exchanges row 0 and row i.
func (e *elimination) exchangeRows(i int) {
	e.rows[0], e.rows[i] = e.rows[i], e.rows[0]
	e.odd = e.odd != (i > 0)
}

// exchangeColumns exchanges column 0 and column j.
func (e *elimination) exchangeColumns(j int) {
	for _, row := range e.rows {
		row[0], row[j] = row[j], row[0]
	}
	e.odd = e.odd != (j > 0)
}

// step eliminates row 0 and column 0. The division leaves no remainder (Bareiss).
func (e *elimination) step() {
	top, below := e.rows[0], e.rows[1:]
	e.rows = build(len(below), len(below), func(i, j int) api.Int {
		ahead := integer.Mul(top[0], below[i][j+1])
		back := integer.Mul(below[i][0], top[j+1])
		quotient, _, _ := integer.DivMod(integer.Sub(ahead, back), e.pivot)
		return quotient
	})
	e.pivot = top[0]
}

// signed returns a with the sign that the exchanges call for.
func (e *elimination) signed(a api.Int) api.Int {
	if e.odd {
		return integer.Neg(a)
	}
	return integer.Normalize(a)
}

package matrix

import (
	"quadform/api"
	"quadform/integer"
)

// Minor returns the determinant of the given rows and columns; false if they are not two lists of the same length, at least 1, that ascend.
func Minor(m [][]api.Int, rows, cols []int) (api.Int, bool) {
	height, width, ok := shapeOf(m)
	if !ok || !ascending(rows, height) || !ascending(cols, width) {
		return api.Int{}, false
	}
	// Lists that are empty or of different lengths choose no square matrix.
	return Det(build(len(rows), len(cols), func(i, j int) api.Int { return m[rows[i]][cols[j]] }))
}

// Det returns the determinant; false if m is not square.
func Det(m [][]api.Int) (api.Int, bool) {
	if !square(m) {
		return api.Int{}, false
	}
	det, _ := eliminate(copyRows(m, len(m)), len(m))
	return det, true
}

// Adjugate returns the adjugate; false if m is not square.
func Adjugate(m [][]api.Int) ([][]api.Int, bool) {
	if !square(m) {
		return nil, false
	}
	_, adjugate := eliminate(bordered(m), len(m))
	return adjugate, true
}

// Inverse returns the inverse of a unimodular matrix; false if m is not unimodular.
func Inverse(m [][]api.Int) ([][]api.Int, bool) {
	if !square(m) {
		return nil, false
	}
	det, adjugate := eliminate(bordered(m), len(m))
	unit, ok := integer.Int64(det)
	if !ok || unit != 1 && unit != -1 {
		return nil, false
	}
	return build(len(m), len(m), func(i, j int) api.Int { return integer.Mul(det, adjugate[i][j]) }), true
}

// square reports whether m is valid and has as many rows as columns.
func square(m [][]api.Int) bool {
	rows, cols, ok := shapeOf(m)
	return ok && rows == cols
}

// ascending reports whether the numbers ascend strictly, from 0 or more to less than limit.
func ascending(numbers []int, limit int) bool {
	previous := -1
	for _, n := range numbers {
		if n <= previous || n >= limit {
			return false
		}
		previous = n
	}
	return true
}

// bordered returns the matrix of twice the size that has m at the upper left, the identity beside it, minus the identity below it, and 0 at the lower right.
// The determinant that m makes with the further row i and the further column j is entry (i, j) of the adjugate of m.
func bordered(m [][]api.Int) [][]api.Int {
	n := len(m)
	upper := copyRows(m, 2*n)
	lower := copyRows(make([][]api.Int, n), 2*n)
	for i := range n {
		upper[i][n+i] = integer.Small(1)
		lower[i][i] = integer.Small(-1)
	}
	return append(upper, lower...)
}

// copyRows returns copies of the rows that are filled up with 0 to the width. Their entries share limbs with those of m.
func copyRows(m [][]api.Int, width int) [][]api.Int {
	rows := make([][]api.Int, len(m))
	for i, row := range m {
		rows[i] = make([]api.Int, width)
		copy(rows[i], row)
	}
	return rows
}

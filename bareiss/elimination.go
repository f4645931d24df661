package bareiss

import (
	"quadform/api"
	"quadform/integer"
)

// pivot is a row that eliminates a column.
type pivot struct {
	column int       // the column
	place  int       // the number of rows that were passed over, and behind which the row stood
	row    []api.Int // its entries from the column on, the first of which is not 0
}

// eliminate eliminates the first columns, as many as width says, and changes rows. Columns that depend on those ahead of them have no pivot.
func eliminate(rows [][]api.Int, width int) []pivot {
	var list []pivot
	divisor := integer.Small(1)
pivots:
	for column := range width {
		for place, row := range rows {
			if integer.Sign(row[0]) != 0 {
				list = append(list, pivot{column, place, row})
				rows[0], rows[place] = row, rows[0]
				rows, divisor = step(rows, divisor), row[0]
				continue pivots
			}
		}
		for i, row := range rows {
			rows[i] = row[1:]
		}
	}
	return list
}

// step eliminates row 0 and column 0. The divisor is the entry (0, 0) of the step before, so that the division leaves no remainder (Bareiss).
func step(rows [][]api.Int, divisor api.Int) [][]api.Int {
	top, below := rows[0], rows[1:]
	return build(len(below), len(top)-1, func(i, j int) api.Int {
		ahead := integer.Mul(top[0], below[i][j+1])
		back := integer.Mul(below[i][0], top[j+1])
		quotient, _, _ := integer.DivMod(integer.Sub(ahead, back), divisor)
		return quotient
	})
}

// copyOf returns a copy of m whose entries are canonical.
func copyOf(m [][]api.Int) [][]api.Int {
	return build(len(m), len(m[0]), func(i, j int) api.Int { return integer.Normalize(m[i][j]) })
}

// build returns the matrix with these entries, which it keeps.
// All rows are cut from one list, each without room behind its end, so that appending to a row does not overwrite the next one.
func build(rows, cols int, entry func(i, j int) api.Int) [][]api.Int {
	entries := make([]api.Int, rows*cols)
	m := make([][]api.Int, rows)
	for i := range m {
		start, end := i*cols, (i+1)*cols
		m[i] = entries[start:end:end]
		for j := range m[i] {
			m[i][j] = entry(i, j)
		}
	}
	return m
}

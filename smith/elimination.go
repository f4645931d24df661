package smith

import (
	"slices"

	"quadform/api"
	"quadform/hermite"
	"quadform/integer"
	"quadform/matrix"
)

// elimination is a matrix on its way to its Smith form, and the unimodular
// matrices that have led to it: rows is left times the matrix at the start
// times the transposed right. (So an operation on two columns of rows acts on
// two rows of right.)
type elimination struct {
	rows, left, right [][]api.Int
	size              int // the rank: the first rows and columns have it, and the others are 0
}

// begin brings the columns of m to Hermite form, and then the rows; false if m is not valid.
//
// What is left of the matrix has as many rows and columns as its rank. Its
// determinant bounds the entries of its Hermite forms, by columns and by rows,
// and the steps to the Smith form change no more than its sign. So the entries
// stay short on the way.
func begin(m [][]api.Int) (elimination, bool) {
	byColumns, right, ok := hermite.Form(m)
	if !ok {
		return elimination{}, false
	}
	byRows, left, _ := hermite.Form(transpose(byColumns))
	e := elimination{rows: transpose(byRows), left: transpose(left), right: transpose(right)}
	e.size = slices.IndexFunc(e.rows, isZero)
	if e.size < 0 {
		e.size = len(e.rows)
	}
	return e, true
}

// run takes the steps to the Smith form. After step k, pivot k divides all entries behind it, and those beside it and below it are 0.
func (e *elimination) run() {
	for k := range e.size {
	search:
		e.bringPivot(k)
		for i := k + 1; i < e.size; i++ {
			if !e.divide(i, k) {
				e.join(i, k)
				goto search
			}
		}
	}
}

// bringPivot makes entry (k, k) the greatest common divisor of row k, and the entries beside it 0.
// It brings all columns from k on to Hermite form, in the rows from k on. Where row k is 0 beside the pivot, nothing is left to do.
func (e *elimination) bringPivot(k int) {
	if isZero(e.rows[k][k+1:]) {
		return
	}
	rest := make([][]api.Int, e.size-k)
	for i := range rest {
		rest[i] = e.rows[k+i][k:e.size]
	}
	form, u, _ := hermite.Form(rest)
	for i, row := range form {
		copy(rest[i], row)
	}
	columns, _ := matrix.Mul(transpose(u), e.right[k:e.size])
	copy(e.right[k:], columns)
}

// divide makes the entry of row i below pivot k 0; false if the division of an entry of this row by the pivot leaves a remainder.
func (e *elimination) divide(i, k int) bool {
	pivot := e.rows[k][k]
	if slices.ContainsFunc(e.rows[i], func(entry api.Int) bool { return !divides(pivot, entry) }) {
		return false
	}
	quotient, _, _ := integer.DivMod(e.rows[i][k], pivot)
	e.addMultiple(k, integer.Neg(quotient), i)
	return true
}

// join adds row i to row k as often as it takes to make the greatest common divisor of row k that of both rows.
//
// The factors of Bezout's equation would do so at once, but they are long, and
// so would be the entries of left. One addition is mostly enough. There is
// always an end: with their common divisor taken out, the rows are still
// independent. So their minors of size 2, all of which a prime p divides if it
// divides a sum, are not all 0; and it divides none of the next p - 1 sums.
func (e *elimination) join(i, k int) {
	both := divisor(append(slices.Clone(e.rows[i]), e.rows[k]...))
	for integer.Cmp(divisor(e.rows[k]), both) != 0 {
		e.addMultiple(i, integer.Small(1), k)
	}
}

// addMultiple adds a multiple of row from to row to.
func (e *elimination) addMultiple(from int, factor api.Int, to int) {
	if integer.Sign(factor) == 0 {
		return
	}
	for _, rows := range [][][]api.Int{e.rows, e.left} {
		for j, entry := range rows[from] {
			rows[to][j] = integer.Add(rows[to][j], integer.Mul(factor, entry))
		}
	}
}

// divisor returns the greatest common divisor of the numbers.
func divisor(numbers []api.Int) api.Int {
	var d api.Int
	for _, n := range numbers {
		d = integer.Gcd(d, n)
	}
	return d
}

package hermite

import (
	"slices"

	"quadform/api"
	"quadform/matrix"
)

// transformed is the Hermite form of a matrix, in the first rows of the columns, and the transformation that leads to it, below.
// Each operation on the columns acts on both.
type transformed struct {
	columns
	height int // the number of rows of the matrix
}

// transform returns the Hermite form of m above the identity; false if m is not valid.
//
// These columns are independent, so there are as many in the end. Those that
// are 0 in the rows of m come last. They generate all columns of this kind, so
// that below they are a basis of the kernel, which is in Hermite form, too.
func transform(m [][]api.Int) (transformed, bool) {
	height, width, ok := matrix.Shape(m)
	if !ok {
		return transformed{}, false
	}
	identity, _ := matrix.Identity(width)
	t := transformed{height: height}
	for j, unit := range identity {
		t.insert(append(columnOf(m, j), unit...))
	}
	return t, true
}

// form returns the Hermite form.
func (t *transformed) form() [][]api.Int {
	return t.part(0, t.height)
}

// transformation returns the unimodular matrix that leads to it.
func (t *transformed) transformation() [][]api.Int {
	return t.part(t.height, len(t.list[0]))
}

// kernel returns the columns of the transformation that lead to 0; nil if there are none.
func (t *transformed) kernel() [][]api.Int {
	rank := slices.IndexFunc(t.list, func(column []api.Int) bool { return leading(column) >= t.height })
	if rank < 0 {
		return nil
	}
	zero := columns{t.list[rank:]}
	return zero.part(t.height, len(t.list[0]))
}

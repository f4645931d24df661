package vector

import (
	"cmp"
	"slices"
)

// ordered is a list with its order: compare is negative if a comes before b, and 0 if they are equal.
type ordered[T any] struct {
	items   []T
	compare func(a, b T) int
}

// sortUnique sorts the items and keeps one of those that are equal.
func (o *ordered[T]) sortUnique() {
	slices.SortFunc(o.items, o.compare)
	o.items = slices.CompactFunc(o.items, func(a, b T) bool { return o.compare(a, b) == 0 })
}

// normed is a pair of a norm and a vector.
type normed struct {
	norm   int64
	vector []int64
}

// newNormed returns the norm of x and the one of x and -x that belongs into a list of vectors; false if none of them does.
func newNormed(h [][]int64, x []int64) (normed, bool) {
	norm, ok := normOf(h, x)
	if !ok {
		return normed{}, false
	}
	vector, ok := CanonicalSign(x)
	return normed{norm: norm, vector: vector}, ok
}

// compareNormed is the order of a list of vectors.
func compareNormed(a, b normed) int {
	if order := cmp.Compare(a.norm, b.norm); order != 0 {
		return order
	}
	return Compare(a.vector, b.vector)
}

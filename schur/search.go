package schur

import "quadform/api"

// search is a tail with a partial norm of at most a bound, which grows and shrinks at its front.
type search struct {
	echelon
	place int                  // the index of the first coordinate of the tail
	tail  [api.MaxDim]int64    // the coordinates, from place on
	rests [api.MaxDim + 1]wide // d_k times the difference of the bound and the partial norm of the coordinates from k on, for k >= place
}

// newSearch returns the empty tail of a reduced form.
func newSearch(h [][]int64, bound int64) search {
	s := search{echelon: newEchelon(h), place: len(h)}
	s.rests[s.place] = widen(bound).times(s.minors[s.place])
	return s
}

// room returns the greatest square that the image of the next coordinate may have. It is below 2^94.
func (s *search) room() wide {
	return s.rests[s.place].times(s.minors[s.place-1])
}

// push puts a coordinate ahead of the tail; false if the partial norm is then greater than the bound.
func (s *search) push(coordinate int64) bool {
	k := s.place - 1
	s.tail[k] = coordinate
	rest, ok := s.room().minus(square(s.image(k, &s.tail)))
	if !ok {
		return false
	}
	s.rests[k] = rest.over(s.minors[k+1])
	s.place = k
	return true
}

// pop removes the first coordinate of the tail.
func (s *search) pop() {
	s.place++
}

// interval returns the range of the next coordinate.
// Its exact ends lie on both sides of v (P10.2), so that they are rounded to the neighbours of v if there is no integer between them.
func (s *search) interval() (int64, int64) {
	k := s.place - 1
	s.tail[k] = 0
	image, radius := s.image(k, &s.tail), s.room().root()
	return -floorQuotient(radius+image, s.minors[k+1]), floorQuotient(radius-image, s.minors[k+1])
}

// walk goes through all tails that are shorter than a vector and end with the present one, each ahead of those that end with it.
// It yields the length that the next coordinate gives to the tail, and the number of its values.
func (s *search) walk(yield func(length int, width int64) bool) {
	s.visit(yield)
}

// visit is walk; false if yield asked for an end.
func (s *search) visit(yield func(length int, width int64) bool) bool {
	lo, hi := s.interval()
	if !yield(s.size-s.place+1, hi-lo+1) {
		return false
	}
	if s.place == 1 {
		return true
	}
	for coordinate := lo; coordinate <= hi; coordinate++ {
		s.push(coordinate)
		more := s.visit(yield)
		s.pop()
		if !more {
			return false
		}
	}
	return true
}

// floorQuotient returns the floor of a / b, for a positive b.
func floorQuotient(a, b int64) int64 {
	q := a / b
	if a%b < 0 {
		q--
	}
	return q
}

package integer

import "math/bits"

// divLimbs returns the quotient and the remainder of x and y; y must not be 0.
func divLimbs(x, y []uint32) ([]uint32, []uint32) {
	switch {
	case len(x) < len(y):
		return nil, copyLimbs(x)
	case len(y) == 1:
		q := copyLimbs(x)
		r := divideBy(q, y[0])
		return trim(q), limbsOfWord(uint64(r))
	}
	return divLong(x, y)
}

// divideBy replaces x by its quotient and returns the remainder. The quotient may end with a zero.
func divideBy(x []uint32, divisor uint32) uint32 {
	var rest uint64
	for i := len(x) - 1; i >= 0; i-- {
		part := rest<<limbBits | uint64(x[i])
		x[i] = uint32(part / uint64(divisor))
		rest = part % uint64(divisor)
	}
	return uint32(rest)
}

// divLong divides by a y of two limbs or more, which x is not shorter than (Knuth's algorithm D).
func divLong(x, y []uint32) ([]uint32, []uint32) {
	n := len(y)
	// The estimates are good because the highest bit of the divisor is set.
	shift := bits.LeadingZeros32(y[n-1])
	u, v := shiftLeft(x, shift), trim(shiftLeft(y, shift))
	q := make([]uint32, len(x)-n+1)
	for j := len(q) - 1; j >= 0; j-- {
		part := u[j : j+n+1]
		digit := estimate(part, v)
		if subtractTimes(part, v, digit) {
			digit--
			addBack(part, v)
		}
		q[j] = digit
	}
	return trim(q), trim(shiftRight(u[:n], shift))
}

// estimate returns the digit part / v, or one more. The limbs of part are one more than those of v, and part < v * 2^32.
func estimate(part, v []uint32) uint32 {
	n := len(v)
	lead, next := uint64(v[n-1]), uint64(v[n-2])
	top := uint64(part[n])<<limbBits | uint64(part[n-1])
	digit, rest := top/lead, top%lead
	// Once rest has more bits than a limb, the third limb cannot make the digit smaller.
	for rest>>limbBits == 0 && (digit>>limbBits > 0 || digit*next > rest<<limbBits|uint64(part[n-2])) {
		digit--
		rest += lead
	}
	return uint32(digit)
}

// subtractTimes subtracts digit * v from part, modulo the size of part, and reports whether the difference is negative.
func subtractTimes(part, v []uint32, digit uint32) bool {
	var carry, borrow uint64
	for i := range len(part) {
		product := uint64(digit)*uint64(limbAt(v, i)) + carry
		carry = product >> limbBits
		difference := uint64(part[i]) - uint64(uint32(product)) - borrow
		part[i] = uint32(difference)
		borrow = difference >> 63
	}
	return borrow > 0
}

// addBack adds v to part, modulo the size of part.
func addBack(part, v []uint32) {
	var carry uint64
	for i := range len(part) {
		sum := uint64(part[i]) + uint64(limbAt(v, i)) + carry
		part[i] = uint32(sum)
		carry = sum >> limbBits
	}
}

// shiftLeft returns x * 2^count for a count below 32, with one limb more than x.
func shiftLeft(x []uint32, count int) []uint32 {
	z := make([]uint32, len(x)+1)
	var low uint64
	for i := range len(z) {
		wide := uint64(limbAt(x, i)) << count
		z[i] = uint32(wide | low)
		low = wide >> limbBits
	}
	return z
}

// shiftRight returns the floor of x / 2^count for a count below 32, with as many limbs as x.
func shiftRight(x []uint32, count int) []uint32 {
	z := make([]uint32, len(x))
	for i := range len(z) {
		wide := uint64(limbAt(x, i+1))<<limbBits | uint64(x[i])
		z[i] = uint32(wide >> count)
	}
	return z
}

// sqrtLimbs returns the floor of the square root by Newton's iteration, which falls until it is reached.
func sqrtLimbs(x []uint32) []uint32 {
	if len(x) == 0 {
		return nil
	}
	root := aboveRoot(x)
	for {
		q, _ := divLimbs(x, root)
		mean := trim(shiftRight(addLimbs(root, q), 1))
		if cmpLimbs(mean, root) >= 0 {
			return root
		}
		root = mean
	}
}

// aboveRoot returns the least power of 2 whose square has more bits than x.
func aboveRoot(x []uint32) []uint32 {
	last := len(x) - 1
	size := limbBits*last + bits.Len32(x[last])
	exponent := (size + 1) / 2
	power := make([]uint32, exponent/limbBits+1)
	power[exponent/limbBits] = 1 << (exponent % limbBits)
	return power
}

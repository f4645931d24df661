package integer

// The functions of this file and of division.go compute with trimmed limbs:
// lists whose last element is not 0, the empty list for 0. They change none of
// their arguments unless their comments say so, and what they return is new.

const limbBits = 32

// trim cuts off the zeros at the end; the result is a part of limbs.
func trim(limbs []uint32) []uint32 {
	n := len(limbs)
	for n > 0 && limbs[n-1] == 0 {
		n--
	}
	return limbs[:n]
}

func copyLimbs(x []uint32) []uint32 {
	z := make([]uint32, len(x))
	copy(z, x)
	return z
}

func fitsWord(x []uint32) bool {
	return len(x) <= 2
}

// wordOfLimbs returns the value of at most two limbs.
func wordOfLimbs(x []uint32) uint64 {
	return uint64(limbAt(x, 0)) | uint64(limbAt(x, 1))<<limbBits
}

func limbsOfWord(n uint64) []uint32 {
	return trim([]uint32{uint32(n), uint32(n >> limbBits)})
}

// limbAt returns element i, and 0 behind the end.
func limbAt(x []uint32, i int) uint32 {
	if i < len(x) {
		return x[i]
	}
	return 0
}

func cmpLimbs(x, y []uint32) int {
	if len(x) != len(y) {
		return order(len(x) < len(y))
	}
	for i := len(x) - 1; i >= 0; i-- {
		if x[i] != y[i] {
			return order(x[i] < y[i])
		}
	}
	return 0
}

func order(less bool) int {
	if less {
		return -1
	}
	return 1
}

func addLimbs(x, y []uint32) []uint32 {
	size := max(len(x), len(y))
	z := make([]uint32, size+1)
	var carry uint64
	for i := range size {
		sum := uint64(limbAt(x, i)) + uint64(limbAt(y, i)) + carry
		z[i] = uint32(sum)
		carry = sum >> limbBits
	}
	z[size] = uint32(carry)
	return trim(z)
}

// subLimbs returns x - y, which must not be negative.
func subLimbs(x, y []uint32) []uint32 {
	z := make([]uint32, len(x))
	var borrow uint64
	for i := range len(x) {
		difference := uint64(x[i]) - uint64(limbAt(y, i)) - borrow
		z[i] = uint32(difference)
		borrow = difference >> 63
	}
	return trim(z)
}

func mulLimbs(x, y []uint32) []uint32 {
	z := make([]uint32, len(x)+len(y))
	for i := range len(x) {
		var carry uint64
		for j := range len(y) {
			sum := uint64(x[i])*uint64(y[j]) + uint64(z[i+j]) + carry
			z[i+j] = uint32(sum)
			carry = sum >> limbBits
		}
		z[i+len(y)] = uint32(carry)
	}
	return trim(z)
}

// timesPlus multiplies x by factor and adds digit. It changes x, and returns it or a longer list.
func timesPlus(x []uint32, factor, digit uint32) []uint32 {
	carry := uint64(digit)
	for i := range len(x) {
		sum := uint64(x[i])*uint64(factor) + carry
		x[i] = uint32(sum)
		carry = sum >> limbBits
	}
	if carry > 0 {
		x = append(x, uint32(carry))
	}
	return x
}

package integer_test

import (
	"math/big"
	"math/rand/v2"
	"testing"

	"quadform/api"
	"quadform/integer"
)

// expectDivMod compares DivMod with big.Int.DivMod, whose remainder is not negative either.
func expectDivMod(t *testing.T, a, b api.Int) {
	t.Helper()
	q, r, ok := integer.DivMod(a, b)
	if value(b).Sign() == 0 {
		if ok || !same(q, api.Int{}) || !same(r, api.Int{}) {
			t.Errorf("DivMod(%v, %v) = %v, %v, %v, want 0, 0, false", a, b, q, r, ok)
		}
		return
	}
	wantQ, wantR := new(big.Int).DivMod(value(a), value(b), new(big.Int))
	expect(t, q, wantQ, "quotient", a, b)
	expect(t, r, wantR, "remainder", a, b)
	if !ok {
		t.Errorf("DivMod(%v, %v) is false", a, b)
	}
}

// P1.5
func TestDivModOfSmallNumbers(t *testing.T) {
	for _, c := range [][4]int64{
		{7, 3, 2, 1}, {-7, 3, -3, 2}, {7, -3, -2, 1}, {-7, -3, 3, 2}, {-7, 2, -4, 1}, {-7, -2, 4, 1},
		{-6, 3, -2, 0}, {-6, -3, 2, 0}, {6, -3, -2, 0}, {0, 5, 0, 0}, {0, -5, 0, 0}, {2, 5, 0, 2}, {2, -5, 0, 2}, {-2, 5, -1, 3}, {-2, -5, 1, 3},
	} {
		q, r, ok := integer.DivMod(integer.Small(c[0]), integer.Small(c[1]))
		if !ok || !same(q, integer.Small(c[2])) || !same(r, integer.Small(c[3])) {
			t.Errorf("DivMod(%d, %d) = %v, %v, %v", c[0], c[1], q, r, ok)
		}
	}
}

// P1.5
func TestDivMod(t *testing.T) {
	forPairs(func(a, b api.Int) { expectDivMod(t, a, b) })
	random := rand.New(rand.NewPCG(3, 4))
	for range 20000 {
		expectDivMod(t, randomInt(random, 12), randomInt(random, 8))
	}
}

// P1.5: dividends near a multiple of the divisor.
func TestDivModNearMultiples(t *testing.T) {
	random := rand.New(rand.NewPCG(5, 6))
	for range 5000 {
		b, q := randomInt(random, 6), randomInt(random, 6)
		multiple := new(big.Int).Mul(value(b), value(q))
		for d := int64(-1); d <= 1; d++ {
			expectDivMod(t, number(new(big.Int).Add(multiple, big.NewInt(d))), b)
		}
	}
}

// P1.5: divisions whose first estimate of a digit is too great, by one or by two, also after the look at the third limb.
func TestDivModEstimates(t *testing.T) {
	for _, c := range []struct{ a, b []uint32 }{
		{[]uint32{3, 0, 1 << 31}, []uint32{1, 0, 1 << 29}},
		{[]uint32{0, ones - 1, 1 << 31}, []uint32{ones, 1 << 31}},
		{[]uint32{0, ones - 1, 1 << 31}, []uint32{ones, 0, 1 << 31}},
		{[]uint32{0, 0, 1 << 31, 1<<31 - 1}, []uint32{1, 0, 1 << 31}},
		{[]uint32{0, 0, 1 << 31, 1<<31 - 1}, []uint32{ones, 0, 1 << 31}},
		{[]uint32{ones, ones, ones, ones}, []uint32{ones, ones}},
		{[]uint32{0, 0, 0, 1 << 31}, []uint32{1, 1 << 31}},
		{[]uint32{0, ones, 1 << 31}, []uint32{ones, 1 << 31}},
		{[]uint32{ones, 1<<31 - 1, 1 << 31}, []uint32{1 << 31, 1 << 31}},
	} {
		for _, neg := range []bool{false, true} {
			expectDivMod(t, api.Int{Neg: neg, Mag: c.a}, positive(c.b...))
			expectDivMod(t, api.Int{Neg: neg, Mag: c.a}, negative(c.b...))
		}
	}
}

// P1.6
func TestGcd(t *testing.T) {
	for _, c := range [][3]int64{{12, -18, 6}, {-12, -18, 6}, {0, -5, 5}, {-5, 0, 5}, {0, 0, 0}, {17, 5, 1}, {-1, 0, 1}, {4, 4, 4}} {
		if got := integer.Gcd(integer.Small(c[0]), integer.Small(c[1])); !same(got, integer.Small(c[2])) {
			t.Errorf("Gcd(%d, %d) = %v", c[0], c[1], got)
		}
	}
	forPairs(func(a, b api.Int) { expectGcd(t, a, b) })
	random := rand.New(rand.NewPCG(7, 8))
	for range 2000 {
		a, b, c := randomInt(random, 6), randomInt(random, 6), randomInt(random, 4)
		expectGcd(t, integer.Mul(a, c), integer.Mul(b, c))
	}
}

func expectGcd(t *testing.T, a, b api.Int) {
	t.Helper()
	x, y := new(big.Int).Abs(value(a)), new(big.Int).Abs(value(b))
	expect(t, integer.Gcd(a, b), new(big.Int).GCD(nil, nil, x, y), "Gcd", a, b)
}

// P1.7
func TestSqrtOfSmallNumbers(t *testing.T) {
	root := int64(0)
	for n := range int64(20000) {
		if (root+1)*(root+1) <= n {
			root++
		}
		if got, ok := integer.Sqrt(integer.Small(n)); !ok || !same(got, integer.Small(root)) {
			t.Errorf("Sqrt(%d) = %v, %v, want %d", n, got, ok, root)
		}
	}
}

// P1.7
func TestSqrt(t *testing.T) {
	for _, a := range samples() {
		if value(a).Sign() < 0 {
			if got, ok := integer.Sqrt(a); ok || !same(got, api.Int{}) {
				t.Errorf("Sqrt(%v) = %v, %v, want 0, false", a, got, ok)
			}
			continue
		}
		square := new(big.Int).Mul(value(a), value(a))
		for d := int64(-1); d <= 1; d++ {
			expectSqrt(t, new(big.Int).Add(square, big.NewInt(d)))
		}
		expectSqrt(t, value(a))
	}
}

func expectSqrt(t *testing.T, v *big.Int) {
	t.Helper()
	if v.Sign() < 0 {
		return
	}
	padded := number(v)
	padded.Mag = append(padded.Mag, 0)
	for _, a := range []api.Int{number(v), padded} {
		got, ok := integer.Sqrt(a)
		if !ok {
			t.Errorf("Sqrt(%v) is false", a)
		}
		expect(t, got, new(big.Int).Sqrt(v), "Sqrt", a)
	}
}

// P1.7: -0 is not negative.
func TestSqrtOfZero(t *testing.T) {
	for _, zero := range []api.Int{positive(), negative(), negative(0, 0)} {
		if got, ok := integer.Sqrt(zero); !ok || !same(got, positive()) {
			t.Errorf("Sqrt(%v) = %v, %v", zero, got, ok)
		}
	}
}

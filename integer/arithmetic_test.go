package integer_test

import (
	"math"
	"math/big"
	"testing"

	"quadform/api"
	"quadform/integer"
)

// P1.1
func TestNormalize(t *testing.T) {
	for _, c := range []struct{ a, want api.Int }{
		{negative(5, 0), negative(5)},
		{negative(0), positive()},
		{negative(), positive()},
		{negative(0, 0, 0), positive()},
		{positive(0), positive()},
		{positive(0, 7, 0, 0), positive(0, 7)},
		{negative(0, 0, 9, 0), negative(0, 0, 9)},
		{positive(1, 2, 3), positive(1, 2, 3)},
	} {
		if got := integer.Normalize(c.a); !same(got, c.want) {
			t.Errorf("Normalize(%v) = %v, want %v", c.a, got, c.want)
		}
	}
	for _, a := range samples() {
		expect(t, integer.Normalize(a), value(a), "Normalize", a)
	}
}

var int64s = []int64{
	0, 1, -1, 2, -2, 1<<31 - 1, 1 << 31, 1<<32 - 1, 1 << 32, 1<<32 + 1, -(1<<32 - 1), -1 << 32, -(1<<32 + 1),
	1<<62 - 1, 1 << 62, math.MaxInt64 - 1, math.MaxInt64, math.MinInt64, math.MinInt64 + 1, math.MinInt64 + 2,
}

// P1.1
func TestSmall(t *testing.T) {
	for _, n := range int64s {
		expect(t, integer.Small(n), big.NewInt(n), "Small", n)
	}
}

// P1.2
func TestInt64(t *testing.T) {
	for _, n := range int64s {
		long := integer.Small(n)
		long.Mag = append(long.Mag, 0, 0)
		for _, a := range []api.Int{integer.Small(n), long} {
			if got, ok := integer.Int64(a); got != n || !ok {
				t.Errorf("Int64(%v) = %d, %v, want %d", a, got, ok, n)
			}
		}
	}
	for _, a := range samples() {
		want := int64(0)
		if value(a).IsInt64() {
			want = value(a).Int64()
		}
		if got, ok := integer.Int64(a); got != want || ok != value(a).IsInt64() {
			t.Errorf("Int64(%v) = %d, %v", a, got, ok)
		}
	}
	for _, a := range []api.Int{
		positive(0, 1<<31), positive(1, 1<<31), negative(1, 1<<31), negative(0, 1<<31+1), positive(ones, ones), negative(ones, ones),
		positive(0, 0, 1), negative(0, 0, 1), positive(5, 0, 0, 1), negative(0, 1<<31, 1, 0),
	} {
		if got, ok := integer.Int64(a); got != 0 || ok {
			t.Errorf("Int64(%v) = %d, %v, want 0, false", a, got, ok)
		}
	}
	if got, ok := integer.Int64(negative(0, 0)); got != 0 || !ok {
		t.Errorf("Int64(-0) = %d, %v", got, ok)
	}
}

// P1.3
func TestSign(t *testing.T) {
	for _, a := range samples() {
		if got := integer.Sign(a); got != value(a).Sign() {
			t.Errorf("Sign(%v) = %d", a, got)
		}
	}
}

// P1.3
func TestCmp(t *testing.T) {
	for _, c := range []struct {
		a, b api.Int
		want int
	}{
		{negative(5), positive(3), -1},
		{negative(5), negative(6), 1},
		{negative(6), negative(5), -1},
		{positive(0, 1), positive(ones), 1},
		{negative(0, 1), negative(ones), -1},
		{positive(9, 1), positive(1, 2), -1},
		{negative(0), positive(), 0},
		{positive(1, 0), positive(1), 0},
		{negative(4, 0, 0), negative(4, 0), 0},
		{negative(0, 0), negative(1), 1},
	} {
		if got := integer.Cmp(c.a, c.b); got != c.want {
			t.Errorf("Cmp(%v, %v) = %d, want %d", c.a, c.b, got, c.want)
		}
	}
	forPairs(func(a, b api.Int) {
		if got := integer.Cmp(a, b); got != value(a).Cmp(value(b)) {
			t.Errorf("Cmp(%v, %v) = %d", a, b, got)
		}
	})
}

// P1.4
func TestNeg(t *testing.T) {
	for _, a := range samples() {
		expect(t, integer.Neg(a), new(big.Int).Neg(value(a)), "Neg", a)
	}
}

// P1.4
func TestSumsAndProducts(t *testing.T) {
	for _, c := range []struct {
		what      string
		got, want api.Int
	}{
		{"a carry through all limbs", integer.Add(positive(ones, ones), positive(1)), positive(0, 0, 1)},
		{"a borrow through all limbs", integer.Sub(positive(0, 0, 1), positive(1)), positive(ones, ones)},
		{"a sum that is 0", integer.Add(negative(5, 0), positive(5)), positive()},
		{"a difference of equal numbers", integer.Sub(negative(0, 7), negative(0, 7, 0)), positive()},
		{"0 - 0", integer.Sub(positive(), negative(0)), positive()},
		{"a smaller number and a greater one of another sign", integer.Add(positive(3), negative(0, 1)), negative(ones - 2)},
		{"a product with -0", integer.Mul(negative(0, 0), positive(ones, ones)), positive()},
		{"the greatest limbs", integer.Mul(positive(ones, ones), negative(ones, ones)), negative(1, 0, ones-1, ones)},
	} {
		if !same(c.got, c.want) {
			t.Errorf("%s: got %v, want %v", c.what, c.got, c.want)
		}
	}
	forPairs(func(a, b api.Int) {
		x, y := value(a), value(b)
		expect(t, integer.Add(a, b), new(big.Int).Add(x, y), "Add", a, b)
		expect(t, integer.Sub(a, b), new(big.Int).Sub(x, y), "Sub", a, b)
		expect(t, integer.Mul(a, b), new(big.Int).Mul(x, y), "Mul", a, b)
	})
}

// P1.8
func TestPow(t *testing.T) {
	for _, a := range samples() {
		for n := range api.MaxPow + 1 {
			got, ok := integer.Pow(a, n)
			if !ok {
				t.Fatalf("Pow(%v, %d) is false", a, n)
			}
			expect(t, got, new(big.Int).Exp(value(a), big.NewInt(int64(n)), nil), "Pow", a, n)
		}
	}
	for _, a := range []api.Int{positive(), negative(0), positive(1), negative(7)} {
		for _, n := range []int{-1, api.MaxPow + 1, api.MaxPow + 2, math.MaxInt, math.MinInt} {
			if got, ok := integer.Pow(a, n); ok || !same(got, api.Int{}) {
				t.Errorf("Pow(%v, %d) = %v, %v, want 0, false", a, n, got, ok)
			}
		}
	}
}

// P1.8: the number of factors 0 of an empty product is 0.
func TestPowOfZero(t *testing.T) {
	for _, zero := range []api.Int{positive(), negative(), negative(0, 0)} {
		one, _ := integer.Pow(zero, 0)
		nothing, _ := integer.Pow(zero, 1)
		if !same(one, positive(1)) || !same(nothing, positive()) {
			t.Errorf("%v: %v, %v", zero, one, nothing)
		}
	}
}

package rational_test

import (
	"math"
	"math/big"
	"testing"

	"quadform/api"
	"quadform/rational"
)

// P2.1
func TestNew(t *testing.T) {
	for _, c := range []struct{ num, den, wantNum, wantDen api.Int }{
		{positive(4), negative(6), negative(2), positive(3)},
		{negative(4, 0), negative(6), positive(2), positive(3)},
		{positive(0), negative(7), positive(), positive(1)},
		{negative(), positive(9, 0), positive(), positive(1)},
		{positive(9), positive(3), positive(3), positive(1)},
		{positive(0, 6), positive(0, 4, 0), positive(3), positive(2)},
		{positive(5), positive(7), positive(5), positive(7)},
	} {
		if got, ok := rational.New(c.num, c.den); !ok || !same(got, over(c.wantNum, c.wantDen)) {
			t.Errorf("New(%v, %v) = %v, %v", c.num, c.den, got, ok)
		}
	}
	for _, a := range samples() {
		got, ok := rational.New(a.Num, a.Den)
		if integerOf(a.Den).Sign() == 0 {
			expectNone(t, got, ok, "New", a)
			continue
		}
		expect(t, got, value(a), "New", a)
		if !ok {
			t.Errorf("New of %v is false", a)
		}
	}
}

// P2.1
func TestNewWithoutDenominator(t *testing.T) {
	for _, num := range append(zeros(), positive(1), negative(4, 0)) {
		for _, den := range zeros() {
			got, ok := rational.New(num, den)
			expectNone(t, got, ok, "New", num, den)
		}
	}
}

// P2.1
func TestWhole(t *testing.T) {
	for _, c := range []struct{ a, want api.Int }{
		{positive(), positive()}, {negative(0, 0), positive()}, {positive(5), positive(5)}, {negative(9, 0), negative(9)}, {negative(0, 0, 1, 0), negative(0, 0, 1)},
	} {
		if got := rational.Whole(c.a); !same(got, over(c.want, positive(1))) {
			t.Errorf("Whole(%v) = %v", c.a, got)
		}
	}
}

// P2.1
func TestNormalize(t *testing.T) {
	if got := rational.Normalize(api.Rat{}); !same(got, over(positive(), positive(1))) {
		t.Errorf("Normalize of the zero value is %v", got)
	}
	for _, den := range zeros() {
		if got := rational.Normalize(over(negative(5), den)); !same(got, over(positive(), positive(1))) {
			t.Errorf("Normalize(-5 / %v) = %v", den, got)
		}
	}
	for _, a := range samples() {
		expect(t, rational.Normalize(a), value(a), "Normalize", a)
	}
}

// P2.2
func TestSign(t *testing.T) {
	for _, c := range []struct {
		num, den int64
		want     int
	}{{3, 4, 1}, {-3, -4, 1}, {3, -4, -1}, {-3, 4, -1}, {3, 0, 0}, {-3, 0, 0}, {0, -5, 0}, {0, 0, 0}} {
		if got := rational.Sign(small(c.num, c.den)); got != c.want {
			t.Errorf("Sign(%d/%d) = %d", c.num, c.den, got)
		}
	}
	for _, a := range samples() {
		if got := rational.Sign(a); got != value(a).Sign() {
			t.Errorf("Sign(%v) = %d", a, got)
		}
	}
}

// P2.2
func TestCmp(t *testing.T) {
	for _, c := range []struct {
		a, b api.Rat
		want int
	}{
		{small(1, 2), small(-2, -4), 0}, {small(-1, 2), small(1, -3), -1}, {small(1, -2), small(1, 0), -1}, {small(1, 2), small(-7, 0), 1},
		{small(22, 7), small(333, 106), 1}, {small(0, 5), small(5, 0), 0}, {small(-2, 1), small(3, -1), 1}, {small(1, 3), small(1, 2), -1},
	} {
		if rational.Cmp(c.a, c.b) != c.want || rational.Cmp(c.b, c.a) != -c.want {
			t.Errorf("Cmp(%v, %v) = %d, want %d", c.a, c.b, rational.Cmp(c.a, c.b), c.want)
		}
	}
	forPairs(func(a, b api.Rat) {
		if got := rational.Cmp(a, b); got != value(a).Cmp(value(b)) {
			t.Errorf("Cmp(%v, %v) = %d", a, b, got)
		}
	})
}

// P2.2: numbers that differ by very little.
func TestCmpOfNeighbours(t *testing.T) {
	big1, big2, big3 := positive(ones, ones, ones), positive(0, 0, 0, 1), positive(1, 0, 0, 1)
	less, more := over(big1, big2), over(big2, big3)
	if rational.Cmp(less, more) != -1 || rational.Cmp(more, less) != 1 {
		t.Error("(n - 1) / n is less than n / (n + 1)")
	}
}

// P2.2
func TestIsWhole(t *testing.T) {
	for _, c := range []struct {
		num, den int64
		want     bool
	}{{6, -3, true}, {6, 4, false}, {0, 7, true}, {9, 0, true}, {-5, 1, true}, {5, -1, true}, {1, 2, false}, {-1, 3, false}, {2, 6, false}} {
		if got := rational.IsWhole(small(c.num, c.den)); got != c.want {
			t.Errorf("IsWhole(%d/%d) = %v", c.num, c.den, got)
		}
	}
	for _, a := range samples() {
		if got := rational.IsWhole(a); got != value(a).IsInt() {
			t.Errorf("IsWhole(%v) = %v", a, got)
		}
	}
}

// P2.3
func TestSumsAndProducts(t *testing.T) {
	for _, c := range []struct {
		what     string
		got      api.Rat
		num, den int64
	}{
		{"1/2 + 1/3", rational.Add(small(1, 2), small(1, 3)), 5, 6},
		{"1/2 + 1/-2", rational.Add(small(1, 2), small(1, -2)), 0, 1},
		{"1/6 + 1/3", rational.Add(small(1, 6), small(1, 3)), 1, 2},
		{"7/0 + 1/4", rational.Add(small(7, 0), small(1, 4)), 1, 4},
		{"1/2 - 5/6", rational.Sub(small(1, 2), small(5, 6)), -1, 3},
		{"0 - 7/-2", rational.Sub(small(0, 3), small(7, -2)), 7, 2},
		{"2/3 * -9/4", rational.Mul(small(2, 3), small(-9, 4)), -3, 2},
		{"7/0 * 1/4", rational.Mul(small(7, 0), small(1, 4)), 0, 1},
		{"-(3/-6)", rational.Neg(small(3, -6)), 1, 2},
		{"-(3/0)", rational.Neg(small(3, 0)), 0, 1},
	} {
		expect(t, c.got, big.NewRat(c.num, c.den), c.what)
	}
	for _, a := range samples() {
		expect(t, rational.Neg(a), new(big.Rat).Neg(value(a)), "Neg", a)
	}
	forPairs(func(a, b api.Rat) {
		x, y := value(a), value(b)
		expect(t, rational.Add(a, b), new(big.Rat).Add(x, y), "Add", a, b)
		expect(t, rational.Sub(a, b), new(big.Rat).Sub(x, y), "Sub", a, b)
		expect(t, rational.Mul(a, b), new(big.Rat).Mul(x, y), "Mul", a, b)
	})
}

// P2.3
func TestQuo(t *testing.T) {
	if got, ok := rational.Quo(small(2, 3), small(-4, 9)); !ok || !same(got, over(negative(3), positive(2))) {
		t.Errorf("2/3 / -4/9 = %v, %v", got, ok)
	}
	forPairs(func(a, b api.Rat) {
		got, ok := rational.Quo(a, b)
		if value(b).Sign() == 0 {
			expectNone(t, got, ok, "Quo", a, b)
			return
		}
		expect(t, got, new(big.Rat).Quo(value(a), value(b)), "Quo", a, b)
		if !ok {
			t.Errorf("Quo(%v, %v) is false", a, b)
		}
	})
}

// P2.3
func TestQuoByZero(t *testing.T) {
	for _, b := range []api.Rat{{}, small(0, 3), small(0, -3), small(3, 0), small(-3, 0), over(negative(0), positive(1)), over(positive(1), negative(0))} {
		for _, a := range []api.Rat{{}, small(0, 1), small(1, 2), small(-4, 3)} {
			got, ok := rational.Quo(a, b)
			expectNone(t, got, ok, "Quo", a, b)
		}
	}
}

// power returns v to the n-th power; v must not be 0 if n is negative.
func power(v *big.Rat, n int) *big.Rat {
	if n < 0 {
		return power(new(big.Rat).Inv(v), -n)
	}
	exponent := big.NewInt(int64(n))
	return new(big.Rat).SetFrac(new(big.Int).Exp(v.Num(), exponent, nil), new(big.Int).Exp(v.Denom(), exponent, nil))
}

// P2.5
func TestPow(t *testing.T) {
	for _, c := range []struct {
		a        api.Rat
		n        int
		num, den int64
	}{
		{small(2, -3), 3, -8, 27}, {small(2, -3), -3, -27, 8}, {small(2, -3), -2, 9, 4}, {small(4, 6), 1, 2, 3}, {small(4, -6), -1, -3, 2},
		{small(-1, 1), 63, -1, 1}, {small(-1, 1), -64, 1, 1}, {small(7, 2), 0, 1, 1}, {small(1, 3), -2, 9, 1},
	} {
		got, ok := rational.Pow(c.a, c.n)
		expect(t, got, big.NewRat(c.num, c.den), "Pow", c.a, c.n)
		if !ok {
			t.Errorf("Pow(%v, %d) is false", c.a, c.n)
		}
	}
	for _, a := range samples() {
		for n := -api.MaxPow; n <= api.MaxPow; n++ {
			got, ok := rational.Pow(a, n)
			if n < 0 && value(a).Sign() == 0 {
				expectNone(t, got, ok, "Pow", a, n)
				continue
			}
			expect(t, got, power(value(a), n), "Pow", a, n)
			if !ok {
				t.Errorf("Pow(%v, %d) is false", a, n)
			}
		}
	}
}

// P2.5
func TestPowOfZero(t *testing.T) {
	for _, zero := range []api.Rat{{}, small(0, 1), small(0, -5), small(5, 0), over(negative(0), negative(3))} {
		for n := range 4 {
			got, ok := rational.Pow(zero, n)
			want := big.NewRat(0, 1)
			if n == 0 {
				want = big.NewRat(1, 1)
			}
			expect(t, got, want, "Pow", zero, n)
			if !ok {
				t.Errorf("Pow(%v, %d) is false", zero, n)
			}
		}
		for _, n := range []int{-1, -2, -api.MaxPow} {
			got, ok := rational.Pow(zero, n)
			expectNone(t, got, ok, "Pow", zero, n)
		}
	}
}

// P2.5
func TestPowOutOfRange(t *testing.T) {
	for _, a := range []api.Rat{{}, small(1, 1), small(-1, 1), small(2, 3), small(3, 0)} {
		for _, n := range []int{api.MaxPow + 1, -api.MaxPow - 1, math.MaxInt, math.MinInt, math.MinInt + 1} {
			got, ok := rational.Pow(a, n)
			expectNone(t, got, ok, "Pow", a, n)
		}
	}
}

package rational_test

import (
	"math/rand/v2"
	"testing"

	"quadform/api"
	"quadform/integer"
	"quadform/rational"
)

// forTriples calls f with pseudo-random triples, which are the same in every run.
func forTriples(f func(a, b, c api.Rat)) {
	random := rand.New(rand.NewPCG(5, 6))
	for range 3000 {
		f(randomRat(random), randomRat(random), randomRat(random))
	}
}

func expectSame(t *testing.T, law string, left, right api.Rat) {
	t.Helper()
	if !same(left, right) {
		t.Errorf("%s: %v and %v", law, left, right)
	}
}

// P2.8
func TestField(t *testing.T) {
	add, mul, one := rational.Add, rational.Mul, small(1, 1)
	forTriples(func(a, b, c api.Rat) {
		expectSame(t, "Add is associative", add(add(a, b), c), add(a, add(b, c)))
		expectSame(t, "Add is commutative", add(a, b), add(b, a))
		expectSame(t, "Mul is associative", mul(mul(a, b), c), mul(a, mul(b, c)))
		expectSame(t, "Mul is commutative", mul(a, b), mul(b, a))
		expectSame(t, "Mul distributes over Add", mul(a, add(b, c)), add(mul(a, b), mul(a, c)))
		expectSame(t, "0 is neutral", add(a, api.Rat{}), rational.Normalize(a))
		expectSame(t, "1 is neutral", mul(a, one), rational.Normalize(a))
		expectSame(t, "Neg is the inverse of Add", add(a, rational.Neg(a)), rational.Normalize(api.Rat{}))
		expectSame(t, "Sub undoes Add", rational.Sub(add(a, b), b), rational.Normalize(a))
		if inverse, ok := rational.Quo(one, b); ok {
			quotient, _ := rational.Quo(a, b)
			power, _ := rational.Pow(b, -1)
			expectSame(t, "Quo is the inverse of Mul", mul(b, inverse), rational.Normalize(one))
			expectSame(t, "Quo multiplies by the inverse", quotient, mul(a, inverse))
			expectSame(t, "the power with exponent -1 is the inverse", power, inverse)
		}
	})
}

// P2.8
func TestOrder(t *testing.T) {
	forTriples(func(a, b, c api.Rat) {
		order := rational.Cmp(a, b)
		if rational.Cmp(b, a) != -order || rational.Cmp(a, a) != 0 {
			t.Errorf("Cmp is not antisymmetric: %v, %v", a, b)
		}
		if order <= 0 && rational.Cmp(b, c) <= 0 && rational.Cmp(a, c) > 0 {
			t.Errorf("Cmp is not transitive: %v, %v, %v", a, b, c)
		}
		if rational.Cmp(rational.Add(a, c), rational.Add(b, c)) != order {
			t.Errorf("Add does not keep the order: %v, %v, %v", a, b, c)
		}
		if rational.Cmp(rational.Mul(a, c), rational.Mul(b, c)) != order*rational.Sign(c) {
			t.Errorf("Mul does not keep the order: %v, %v, %v", a, b, c)
		}
		if rational.Sign(rational.Sub(a, b)) != order {
			t.Errorf("Cmp is not the sign of the difference: %v, %v", a, b)
		}
	})
}

// P2.8
func TestRoundingBounds(t *testing.T) {
	one, half := small(1, 1), small(1, 2)
	forTriples(func(a, _, _ api.Rat) {
		floor := rational.Whole(rational.Floor(a))
		if rational.Cmp(floor, a) > 0 || rational.Cmp(a, rational.Add(floor, one)) >= 0 {
			t.Errorf("the floor of %v is %v", a, floor)
		}
		distance := rational.Sub(a, rational.Whole(rational.Nearest(a)))
		if rational.Cmp(distance, half) > 0 || rational.Cmp(rational.Neg(distance), half) > 0 {
			t.Errorf("the nearest integer of %v has distance %v", a, distance)
		}
		if rational.IsWhole(a) != (rational.Cmp(floor, a) == 0) {
			t.Errorf("IsWhole(%v) = %v", a, rational.IsWhole(a))
		}
	})
}

// P2.8
func TestParseOfFormat(t *testing.T) {
	nines, e := integer.Parse(longest)
	if e != api.OK {
		t.Fatal(e)
	}
	list := append(samples(), over(integer.Neg(nines), integer.Sub(nines, positive(1))), over(positive(5), nines), over(nines, positive(7)))
	forTriples(func(a, b, c api.Rat) { list = append(list, a) })
	for _, a := range list {
		got, e := rational.Parse(rational.Format(a))
		if e != api.OK {
			t.Errorf("Parse(Format(%v)) returns error %d", a, e)
		}
		expectSame(t, "Parse(Format(a))", got, rational.Normalize(a))
	}
	next := integer.Add(nines, positive(1))
	for _, a := range []api.Rat{over(next, positive(1)), over(next, positive(3)), over(positive(3), next)} {
		if _, e := rational.Parse(rational.Format(a)); e != api.ErrTooLarge {
			t.Errorf("one digit more: error %d", e)
		}
	}
}

package integer_test

import (
	"math/rand/v2"
	"strings"
	"testing"

	"quadform/api"
	"quadform/integer"
)

// forTriples calls f with pseudo-random triples, which are the same in every run.
func forTriples(f func(a, b, c api.Int)) {
	random := rand.New(rand.NewPCG(9, 10))
	for range 3000 {
		f(randomInt(random, 5), randomInt(random, 5), randomInt(random, 5))
	}
}

func expectSame(t *testing.T, law string, left, right api.Int) {
	t.Helper()
	if !same(left, right) || !isCanonical(left) {
		t.Errorf("%s: %v and %v", law, left, right)
	}
}

// P1.11
func TestRing(t *testing.T) {
	add, mul := integer.Add, integer.Mul
	forTriples(func(a, b, c api.Int) {
		expectSame(t, "Add is associative", add(add(a, b), c), add(a, add(b, c)))
		expectSame(t, "Add is commutative", add(a, b), add(b, a))
		expectSame(t, "Mul is associative", mul(mul(a, b), c), mul(a, mul(b, c)))
		expectSame(t, "Mul is commutative", mul(a, b), mul(b, a))
		expectSame(t, "Mul distributes over Add", mul(a, add(b, c)), add(mul(a, b), mul(a, c)))
		expectSame(t, "Neg is the inverse", add(a, integer.Neg(a)), integer.Small(0))
		expectSame(t, "Sub undoes Add", integer.Sub(add(a, b), b), integer.Normalize(a))
		expectSame(t, "1 is neutral", mul(a, integer.Small(1)), integer.Normalize(a))
	})
}

// P1.11
func TestOrder(t *testing.T) {
	forTriples(func(a, b, c api.Int) {
		order := integer.Cmp(a, b)
		if integer.Cmp(b, a) != -order {
			t.Errorf("Cmp is not antisymmetric: %v, %v", a, b)
		}
		if order <= 0 && integer.Cmp(b, c) <= 0 && integer.Cmp(a, c) > 0 {
			t.Errorf("Cmp is not transitive: %v, %v, %v", a, b, c)
		}
		if integer.Cmp(integer.Add(a, c), integer.Add(b, c)) != order {
			t.Errorf("Add does not keep the order: %v, %v, %v", a, b, c)
		}
		if integer.Sign(integer.Sub(a, b)) != order {
			t.Errorf("Cmp is not the sign of the difference: %v, %v", a, b)
		}
	})
}

// P1.11
func TestGcdIsCombination(t *testing.T) {
	forTriples(func(a, b, _ api.Int) {
		x, y := combination(a, b)
		expectSame(t, "x a + y b", integer.Add(integer.Mul(x, a), integer.Mul(y, b)), integer.Gcd(a, b))
	})
}

// combination returns x and y for which x a + y b is the greatest common divisor, by Euclid's extended algorithm.
func combination(a, b api.Int) (api.Int, api.Int) {
	x, y := integer.Small(1), integer.Small(0)
	nextX, nextY := integer.Small(0), integer.Small(1)
	for integer.Sign(b) != 0 {
		q, r, _ := integer.DivMod(a, b)
		a, b = b, r
		x, nextX = nextX, integer.Sub(x, integer.Mul(q, nextX))
		y, nextY = nextY, integer.Sub(y, integer.Mul(q, nextY))
	}
	if integer.Sign(a) < 0 {
		return integer.Neg(x), integer.Neg(y)
	}
	return x, y
}

// P1.11
func TestParseOfFormat(t *testing.T) {
	longest, e := integer.Parse("-" + strings.Repeat("9", api.MaxDigits))
	if e != api.OK {
		t.Fatal(e)
	}
	for _, a := range append(samples(), longest) {
		got, e := integer.Parse(integer.Format(a))
		if e != api.OK {
			t.Errorf("Parse(Format(%v)) returns error %d", a, e)
		}
		expectSame(t, "Parse(Format(a))", got, integer.Normalize(a))
	}
	next := integer.Sub(longest, integer.Small(1))
	if _, e := integer.Parse(integer.Format(next)); e != api.ErrTooLarge {
		t.Errorf("one digit more: error %d", e)
	}
}

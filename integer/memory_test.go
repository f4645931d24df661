package integer_test

import (
	"slices"
	"testing"

	"quadform/api"
	"quadform/integer"
)

// spare returns an Int with the limbs of a, behind which the slice has room.
func spare(a api.Int) api.Int {
	room := make([]uint32, len(a.Mag), len(a.Mag)+4)
	copy(room, a.Mag)
	return api.Int{Neg: a.Neg, Mag: room}
}

// whole returns all limbs of the memory of a.
func whole(a api.Int) []uint32 { return a.Mag[:cap(a.Mag)] }

func fill(a api.Int) {
	for i := range whole(a) {
		whole(a)[i] = 0xdeadbeef
	}
}

// results calls every function that takes Ints, and returns the Ints that they return.
func results(a, b api.Int) []api.Int {
	q, r, _ := integer.DivMod(a, b)
	root, _ := integer.Sqrt(a)
	list := []api.Int{
		integer.Normalize(a), integer.Neg(a), integer.Add(a, b), integer.Sub(a, b), integer.Mul(a, b), integer.Gcd(a, b), q, r, root,
	}
	for n := range 3 {
		power, _ := integer.Pow(a, n)
		list = append(list, power)
	}
	integer.Int64(a)
	integer.Sign(a)
	integer.Cmp(a, b)
	integer.Format(a)
	return list
}

// R2, for P1.1 to P1.8 and P1.10: arguments are not changed, and results share no memory with them or with each other.
func TestMemory(t *testing.T) {
	forPairs(func(a, b api.Int) {
		x, y := spare(a), spare(b)
		beforeX, beforeY := slices.Clone(whole(x)), slices.Clone(whole(y))
		list := results(x, y)
		if !slices.Equal(whole(x), beforeX) || !slices.Equal(whole(y), beforeY) {
			t.Fatalf("an argument was changed: %v, %v", a, b)
		}
		expectApart(t, list, a, b)
		if !slices.Equal(whole(x), beforeX) || !slices.Equal(whole(y), beforeY) {
			t.Fatalf("a result shares memory with an argument: %v, %v", a, b)
		}
	})
}

// expectApart overwrites each result and checks that the others stay.
func expectApart(t *testing.T, list []api.Int, a, b api.Int) {
	t.Helper()
	for i := range list {
		others := slices.Delete(slices.Clone(list), i, i+1)
		before := texts(others)
		fill(list[i])
		if !slices.Equal(texts(others), before) {
			t.Fatalf("results share memory: %v, %v", a, b)
		}
	}
}

func texts(list []api.Int) []string {
	var all []string
	for _, a := range list {
		all = append(all, integer.Format(a))
	}
	return all
}

// R2: the same Int may be both arguments.
func TestEqualArguments(t *testing.T) {
	for _, a := range samples() {
		x := spare(a)
		list := results(x, x)
		if !slices.Equal(texts(list), texts(results(a, spare(a)))) {
			t.Errorf("results depend on the sharing of memory by the arguments: %v", a)
		}
	}
}

// R2 and R3: results do not share memory with a state that later calls use.
func TestNoState(t *testing.T) {
	fill(integer.Small(1))
	one, _ := integer.Pow(integer.Small(9), 0)
	fill(one)
	parsed, _ := integer.Parse("10")
	fill(parsed)
	zero, _ := integer.Parse("0")
	fill(zero)
	forPairs(func(a, b api.Int) {
		first := results(a, b)
		want := texts(first)
		for _, r := range first {
			fill(r)
		}
		if got := texts(results(a, b)); !slices.Equal(got, want) {
			t.Fatalf("a second call returns other results: %v, %v", a, b)
		}
	})
	if again, e := integer.Parse("10"); e != api.OK || !same(again, positive(10)) {
		t.Errorf("Parse after a change of its result: %v", again)
	}
}

package rational_test

import (
	"slices"
	"testing"

	"quadform/api"
	"quadform/integer"
	"quadform/rational"
)

// spareInt returns an Int with the limbs of a, behind which the slice has room.
func spareInt(a api.Int) api.Int {
	room := make([]uint32, len(a.Mag), len(a.Mag)+4)
	copy(room, a.Mag)
	return api.Int{Neg: a.Neg, Mag: room}
}

func spare(a api.Rat) api.Rat {
	return over(spareInt(a.Num), spareInt(a.Den))
}

// whole returns all limbs of the memory of a, which may be more than its length.
func whole(a api.Int) []uint32 { return a.Mag[:cap(a.Mag)] }

// memory returns a copy of all limbs of the numbers.
func memory(list ...api.Int) []uint32 {
	var limbs []uint32
	for _, a := range list {
		limbs = append(limbs, whole(a)...)
	}
	return limbs
}

func fill(a api.Int) {
	for i := range whole(a) {
		whole(a)[i] = 0xdeadbeef
	}
}

// results calls every function that takes numbers, and returns the Ints of which the results consist.
func results(a, b api.Rat) []api.Int {
	fraction, _ := rational.New(a.Num, b.Num)
	quotient, _ := rational.Quo(a, b)
	rats := []api.Rat{
		fraction, rational.Whole(a.Num), rational.Normalize(a), rational.Neg(a), rational.Add(a, b), rational.Sub(a, b), rational.Mul(a, b), quotient,
	}
	for n := -2; n <= 2; n++ {
		power, _ := rational.Pow(a, n)
		rats = append(rats, power)
	}
	parsed, _ := rational.Parse(rational.Format(a))
	list := []api.Int{rational.Floor(a), rational.Nearest(a), parsed.Num, parsed.Den}
	for _, r := range rats {
		list = append(list, r.Num, r.Den)
	}
	rational.Sign(a)
	rational.Cmp(a, b)
	rational.IsWhole(a)
	return list
}

// R2, for P2.1 to P2.7: arguments are not changed, and results share no memory with them or with each other.
func TestMemory(t *testing.T) {
	forPairs(func(a, b api.Rat) {
		x, y := spare(a), spare(b)
		before := memory(x.Num, x.Den, y.Num, y.Den)
		list := results(x, y)
		if !slices.Equal(memory(x.Num, x.Den, y.Num, y.Den), before) {
			t.Fatalf("an argument was changed: %v, %v", a, b)
		}
		expectApart(t, list, a, b)
		if !slices.Equal(memory(x.Num, x.Den, y.Num, y.Den), before) {
			t.Fatalf("a result shares memory with an argument: %v, %v", a, b)
		}
	})
}

// expectApart overwrites the results one by one and checks that those behind stay.
func expectApart(t *testing.T, list []api.Int, a, b api.Rat) {
	t.Helper()
	for i := range list {
		rest := list[i+1:]
		before := memory(rest...)
		fill(list[i])
		if !slices.Equal(memory(rest...), before) {
			t.Fatalf("results share memory: %v, %v", a, b)
		}
	}
}

func texts(list []api.Int) []string {
	var all []string
	for _, a := range list {
		all = append(all, integer.Format(a))
	}
	return all
}

// R2: the same Rat may be both arguments, and the same Int both parts of a Rat.
func TestEqualArguments(t *testing.T) {
	for _, a := range samples() {
		x, square := spare(a), over(a.Num, a.Num)
		if !slices.Equal(texts(results(x, x)), texts(results(a, spare(a)))) {
			t.Errorf("results depend on the sharing of memory by the arguments: %v", a)
		}
		if !slices.Equal(texts(results(square, square)), texts(results(spare(square), spare(square)))) {
			t.Errorf("results depend on the sharing of memory by the parts: %v", square)
		}
	}
}

// R2 and R3: results do not share memory with a state that later calls use.
func TestNoState(t *testing.T) {
	forPairs(func(a, b api.Rat) {
		first := results(a, b)
		want := texts(first)
		for _, r := range first {
			fill(r)
		}
		if got := texts(results(a, b)); !slices.Equal(got, want) {
			t.Fatalf("a second call returns other results: %v, %v", a, b)
		}
	})
	for _, s := range []string{"0", "1", "-7/2"} {
		first, _ := rational.Parse(s)
		fill(first.Num)
		fill(first.Den)
		if again, e := rational.Parse(s); e != api.OK || rational.Format(again) != s {
			t.Errorf("Parse(%s) after a change of its result: %v", s, again)
		}
	}
}

package bareiss_test

import (
	"math/big"
	"slices"
	"testing"

	"quadform/api"
	"quadform/bareiss"
	"quadform/matrix"
)

// stage returns stage k of m, by its definition.
func stage(m [][]api.Int, k int) fractions {
	var places []int
	for i := range k + 1 {
		places = append(places, i)
	}
	out := make(fractions, len(m)-k)
	for i := range out {
		for j := range out {
			rows, cols := slices.Clone(places), slices.Clone(places)
			rows[k], cols[k] = k+i, k+j
			out[i] = append(out[i], value(must(matrix.Minor(m, rows, cols))))
		}
	}
	return out
}

// expectStages checks Stages for a square matrix.
func expectStages(t *testing.T, m [][]api.Int) {
	t.Helper()
	got, ok := bareiss.Stages(m)
	minors := leadingMinors(m)
	if slices.ContainsFunc(minors[:len(m)-1], func(d *big.Rat) bool { return d.Sign() == 0 }) {
		expectNone(t, "Stages", got, ok)
		return
	}
	if !ok || len(got) != len(m) {
		t.Fatalf("Stages of %v: got %v, %v", m, got, ok)
	}
	for k := range m {
		if !isMatrix(got[k], stage(m, k)) {
			t.Fatalf("stage %d of %v: got %v, want %v", k, m, got[k], stage(m, k))
		}
	}
}

// P4.1
func TestStages(t *testing.T) {
	for _, m := range squares() {
		expectStages(t, m)
	}
	forTinyMatrices(func(m [][]api.Int) { expectStages(t, m) })
}

// P4.1: the numbers themselves, also with a minor 0 at the end.
func TestStagesByHand(t *testing.T) {
	for _, c := range [][]ints{
		{{{2, 1}, {1, 2}}, {{3}}}, {{{2, 1, 0}, {1, 2, 1}, {0, 1, 2}}, {{3, 2}, {2, 4}}, {{4}}}, {{{-3, 1}, {2, 0}}, {{-2}}}, {{{5}}}, {{{-5}}}, {{{0}}}, {{{1, 2}, {2, 4}}, {{0}}},
		{{{1, 2, 3}, {4, 5, 6}, {7, 8, 9}}, {{-3, -6}, {-6, -12}}, {{0}}}, {{{-2, 3, 1}, {0, 4, 5}, {1, 0, 2}}, {{-8, -10}, {-3, -5}}, {{-5}}},
	} {
		got, ok := bareiss.Stages(of(c[0]))
		if !ok || len(got) != len(c) {
			t.Errorf("Stages of %v: got %v, %v", c[0], got, ok)
			continue
		}
		for k := range c {
			if !isMatrix(got[k], fractionsOf(of(c[k]))) {
				t.Errorf("stage %d of %v: got %v", k, c[0], got[k])
			}
		}
	}
}

// P4.1: a minor that is 0 ahead of the last one, at every place.
func TestStagesWithMinorZero(t *testing.T) {
	for n := 1; n <= api.MaxSize; n++ {
		for zero := range n {
			l := zeros(n, n)
			for i := range n {
				l[i][i] = int64(i + 2)
			}
			l[zero][zero] = 0
			if zero > 0 {
				l[zero][0], l[0][zero] = 5, 0
			}
			got, ok := bareiss.Stages(of(l))
			if zero < n-1 {
				expectNone(t, "Stages", got, ok)
			} else if !ok || len(got) != n {
				t.Errorf("Stages of %v: got %v, %v", l, got, ok)
			}
		}
	}
}

// P4.1
func TestStagesNotSquare(t *testing.T) {
	for _, l := range notSquare() {
		got, ok := bareiss.Stages(of(l))
		expectNone(t, "Stages", got, ok)
	}
}

// expectLeading checks Leading for a square matrix.
func expectLeading(t *testing.T, m [][]api.Int) {
	t.Helper()
	got, ok := bareiss.Leading(m)
	if want := leadingMinors(m); !ok || !slices.EqualFunc(got, want, isNumber) {
		t.Fatalf("Leading of %v: got %v, %v, want %v", m, got, ok, want)
	}
}

// P4.2
func TestLeading(t *testing.T) {
	for _, m := range squares() {
		expectLeading(t, m)
	}
	forTinyMatrices(func(m [][]api.Int) { expectLeading(t, m) })
}

// P4.2: minors other than 0 behind minors that are 0.
func TestLeadingBehindZero(t *testing.T) {
	for _, c := range []struct {
		l    ints
		want []int64
	}{
		{ints{{2, 1}, {1, 2}}, []int64{2, 3}}, {ints{{0, 1}, {1, 0}}, []int64{0, -1}}, {ints{{0, 0, 1}, {0, 2, 0}, {3, 0, 0}}, []int64{0, 0, -6}}, {ints{{0, 1, 0}, {1, 0, 0}, {0, 0, -7}}, []int64{0, -1, 7}},
		{ints{{1, 1, 0, 0}, {1, 1, 1, 0}, {0, 1, 1, 0}, {0, 0, 0, 5}}, []int64{1, 0, -1, -5}}, {ints{{0, 1, 0, 0}, {1, 0, 0, 0}, {0, 0, 0, 1}, {0, 0, 1, 0}}, []int64{0, -1, 0, 1}}, {ints{{0}}, []int64{0}},
		{ints{{1, 2, 0}, {2, 4, 0}, {0, 0, 1}}, []int64{1, 0, 0}},
	} {
		got, ok := bareiss.Leading(of(c.l))
		if !ok || !slices.EqualFunc(got, valuesOf(column(c.want...)), isNumber) {
			t.Errorf("Leading of %v: got %v, %v, want %v", c.l, got, ok, c.want)
		}
	}
}

// P4.2
func TestLeadingNotSquare(t *testing.T) {
	for _, l := range notSquare() {
		got, ok := bareiss.Leading(of(l))
		expectNone(t, "Leading", got, ok)
	}
}

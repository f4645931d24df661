package smith_test

import (
	"math/big"
	"math/rand/v2"
	"testing"

	"quadform/api"
	"quadform/integer"
	"quadform/matrix"
	"quadform/smith"
)

// P6.3 and P6.4
func TestFactorsAndDivisorsByHand(t *testing.T) {
	for _, c := range []struct {
		m                 ints
		factors, divisors []*big.Int
	}{
		{ints{{2, 0}, {0, 3}}, bigs(1, 6), bigs(1, 6)},
		{ints{{2, 4}, {4, 8}}, bigs(2, 0), bigs(2, 0)},
		{ints{{-7}}, bigs(7), bigs(7)},
		{ints{{0}}, bigs(0), bigs(0)},
		{ints{{4, 6, 10}}, bigs(2), bigs(2)},
		{ints{{6}, {10}, {15}}, bigs(1), bigs(1)},
		{ints{{4, 0}, {0, 6}, {0, 0}}, bigs(2, 12), bigs(2, 24)},
		{ints{{0, 0, 4}, {0, 0, 6}}, bigs(2, 0), bigs(2, 0)},
		{ints{{4, 0, 0}, {0, 6, 0}, {0, 0, 9}}, bigs(1, 6, 36), bigs(1, 6, 216)},
		{ints{{2, 0, 0}, {0, 2, 0}, {0, 0, 2}}, bigs(2, 2, 2), bigs(2, 4, 8)},
		{ints{{2, 4, 4}, {-6, 6, 12}, {10, 4, 16}}, bigs(2, 2, 156), bigs(2, 4, 624)},
		{zeros(3, 2), bigs(0, 0), bigs(0, 0)},
		{zeros(1, 8), bigs(0), bigs(0)},
		{zeros(8, 8), bigs(0, 0, 0, 0, 0, 0, 0, 0), bigs(0, 0, 0, 0, 0, 0, 0, 0)},
	} {
		if factors, ok := smith.Factors(of(c.m)); !ok || !isList(factors, c.factors) {
			t.Errorf("Factors of %v: %v, %v", c.m, factors, ok)
		}
		if divisors, ok := smith.Divisors(of(c.m)); !ok || !isList(divisors, c.divisors) {
			t.Errorf("Divisors of %v: %v, %v", c.m, divisors, ok)
		}
	}
}

// expectByMinors checks Factors and Divisors by the minors of m.
func expectByMinors(t *testing.T, m [][]api.Int) {
	t.Helper()
	want := divisorsOfMinors(m)
	if divisors, ok := smith.Divisors(m); !ok || !isList(divisors, want) {
		t.Errorf("Divisors of %v: %v, %v, want %v", m, divisors, ok, want)
	}
	if factors, ok := smith.Factors(m); !ok || !isList(factors, quotients(want)) {
		t.Errorf("Factors of %v: %v, %v, want %v", m, factors, ok, quotients(want))
	}
}

// P6.3 and P6.4
func TestFactorsAndDivisorsByMinors(t *testing.T) {
	for _, m := range few() {
		expectByMinors(t, m)
	}
	for _, shape := range [][2]int{{1, 1}, {1, 2}, {2, 1}, {2, 2}, {1, 3}, {3, 1}} {
		forTinyMatrices(shape[0], shape[1], -3, 3, func(l ints) { expectByMinors(t, of(l)) })
	}
	forTinyMatrices(2, 3, 0, 2, func(l ints) { expectByMinors(t, of(l)) })
	forTinyMatrices(3, 2, 0, 2, func(l ints) { expectByMinors(t, of(l)) })
	forTinyMatrices(1, 3, 0, 12, func(l ints) { expectByMinors(t, of(ints{{l[0][0], 0, 0}, {0, l[0][1], 0}, {0, 0, l[0][2]}})) })
	random := rand.New(rand.NewPCG(7, 8))
	for _, m := range [][][]api.Int{smallMatrix(random, 6, 6, 4), multiples(random, 7, 7), multiples(random, 6, 8), dependent(random, 8, 6, 3)} {
		expectByMinors(t, m)
	}
}

// P6.3: the factors of the Smith form, for matrices of all sizes whose factors are known.
func TestFactors(t *testing.T) {
	random := rand.New(rand.NewPCG(9, 10))
	for rows := 1; rows <= api.MaxSize; rows++ {
		for _, cols := range []int{1 + random.IntN(api.MaxSize), 1 + random.IntN(api.MaxSize), rows} {
			m, want := withFactors(random, rows, cols)
			if factors, ok := smith.Factors(m); !ok || !isList(factors, want) {
				t.Errorf("Factors of %v: %v, %v, want %v", m, factors, ok, want)
			}
		}
	}
}

// P6.3: Factors returns the diagonal of what Form returns.
func TestFactorsOfForm(t *testing.T) {
	for _, m := range samples() {
		d, _, _, _ := smith.Form(m)
		factors, ok := smith.Factors(m)
		if !ok || !isCanonical(factors) || len(factors) != min(len(m), len(m[0])) {
			t.Fatalf("Factors of %v: %v, %v", m, factors, ok)
		}
		for i, a := range factors {
			if integer.Cmp(a, d[i][i]) != 0 {
				t.Errorf("Factors of %v: %v, but Form returns %v", m, factors, d)
			}
		}
	}
}

// P6.4: there are divisors up to MaxDim rows and columns, and no farther.
func TestDivisorsLimit(t *testing.T) {
	for rows := 1; rows <= api.MaxSize; rows++ {
		for cols := 1; cols <= api.MaxSize; cols++ {
			m := diagonal(rows, cols, build(1, api.MaxSize, func(i, j int) api.Int { return small(2) })[0])
			divisors, ok := smith.Divisors(m)
			if rows > api.MaxDim || cols > api.MaxDim {
				expectNone(t, "Divisors", divisors, ok)
				continue
			}
			var want []*big.Int
			for k := range min(rows, cols) {
				want = append(want, big.NewInt(2<<k))
			}
			if !ok || !isList(divisors, want) {
				t.Errorf("Divisors of %v: %v, %v", m, divisors, ok)
			}
		}
	}
}

// expectExponent checks Exponent, which is want; 0 stands for no value.
func expectExponent(t *testing.T, m [][]api.Int, want *big.Int) {
	t.Helper()
	n, ok := smith.Exponent(m)
	if ok != (want.Sign() > 0) || !isList([]api.Int{n}, []*big.Int{want}) {
		t.Errorf("Exponent of %v: %v, %v, want %v", m, n, ok, want)
	}
}

// P6.5
func TestExponentByHand(t *testing.T) {
	for _, c := range []struct {
		m    ints
		want int64
	}{
		{ints{{2, 1}, {1, 2}}, 3}, {ints{{2, 0}, {0, 2}}, 2}, {ints{{2, 0}, {0, 3}}, 6}, {ints{{4, 0}, {0, 6}}, 12}, {ints{{1}}, 1}, {ints{{-1}}, 1}, {ints{{-5}}, 5}, {ints{{0, 1}, {1, 0}}, 1}, {ints{{1, 7}, {0, -1}}, 1}, {ints{{2, 4, 4}, {-6, 6, 12}, {10, 4, 16}}, 156}, {ints{{1 << 62}}, 1 << 62},
		{ints{{0}}, 0}, {ints{{1, 2}, {2, 4}}, 0}, {ints{{1, 0}, {0, 0}}, 0}, {ints{{1, 2, 3}, {4, 5, 6}, {7, 8, 9}}, 0}, {zeros(16, 16), 0},
		{ints{{1, 2}}, 0}, {ints{{1}, {2}}, 0}, {ints{{1, 0, 0}, {0, 1, 0}}, 0}, {ints{{1, 0}, {0, 1}, {0, 0}}, 0}, {zeros(1, 16), 0},
	} {
		expectExponent(t, of(c.m), big.NewInt(c.want))
	}
}

// leastMultiplier returns the least N for which the determinant divides N times all entries of the adjugate; 0 if m has no inverse.
func leastMultiplier(m [][]api.Int) *big.Int {
	det, ok := matrix.Det(m)
	if !ok || value(det).Sign() == 0 {
		return new(big.Int)
	}
	size := new(big.Int).Abs(value(det))
	common := new(big.Int).Set(size)
	for _, row := range must(matrix.Adjugate(m)) {
		for _, entry := range values(row) {
			common.GCD(nil, nil, common, entry.Abs(entry))
		}
	}
	return size.Quo(size, common)
}

// P6.5: by the adjugate.
func TestExponent(t *testing.T) {
	random := rand.New(rand.NewPCG(11, 12))
	for _, m := range samples() {
		expectExponent(t, m, leastMultiplier(m))
	}
	forTinyMatrices(2, 2, -4, 4, func(l ints) { expectExponent(t, of(l), leastMultiplier(of(l))) })
	forTinyMatrices(3, 3, 0, 1, func(l ints) { expectExponent(t, of(l), leastMultiplier(of(l))) })
	for size := 1; size <= api.MaxSize; size++ {
		m, factors := withFactors(random, size, size)
		expectExponent(t, m, factors[size-1])
	}
}

// P6.3 to P6.5
func TestFactorsNotValid(t *testing.T) {
	for _, l := range notValid() {
		factors, ok := smith.Factors(of(l))
		expectNone(t, "Factors", factors, ok)
		divisors, ok := smith.Divisors(of(l))
		expectNone(t, "Divisors", divisors, ok)
		n, ok := smith.Exponent(of(l))
		expectNone(t, "Exponent", n.Mag, ok)
		if n.Neg {
			t.Errorf("Exponent of %v: %v", l, n)
		}
	}
}

package smith_test

import (
	"math/big"
	"math/rand/v2"
	"testing"

	"quadform/api"
	"quadform/bareiss"
	"quadform/matrix"
	"quadform/smith"
)

// P6.6: the divisors are the products of the first factors.
func TestDivisorsAreProducts(t *testing.T) {
	for _, m := range samples() {
		if len(m) > api.MaxDim || len(m[0]) > api.MaxDim {
			continue
		}
		product := big.NewInt(1)
		var want []*big.Int
		for _, factor := range values(must(smith.Factors(m))) {
			product = new(big.Int).Mul(product, factor)
			want = append(want, product)
		}
		if divisors := must(smith.Divisors(m)); !isList(divisors, want) {
			t.Errorf("Divisors of %v: %v, want %v", m, divisors, want)
		}
	}
}

// P6.6: the product of the factors of a square matrix is its determinant without its sign, and the last one is the exponent.
func TestFactorsOfSquares(t *testing.T) {
	for _, m := range samples() {
		if len(m) != len(m[0]) {
			continue
		}
		factors := values(must(smith.Factors(m)))
		product := big.NewInt(1)
		for _, factor := range factors {
			product.Mul(product, factor)
		}
		if det := value(must(matrix.Det(m))); product.CmpAbs(det) != 0 || product.Sign() < 0 {
			t.Errorf("%v has the factors %v and the determinant %v", m, factors, det)
		}
		expectExponent(t, m, factors[len(factors)-1])
	}
}

// P6.6: the number of factors that are not 0 is the rank.
func TestFactorsAndRank(t *testing.T) {
	for _, m := range samples() {
		rank := 0
		for _, factor := range values(must(smith.Factors(m))) {
			rank += factor.Sign()
		}
		if want := must(bareiss.Rank(m)); rank != want {
			t.Errorf("%v has the rank %d, and %d factors other than 0", m, want, rank)
		}
	}
}

// P6.6: unimodular matrices and transposition do not change the factors.
func TestFactorsStay(t *testing.T) {
	random := rand.New(rand.NewPCG(13, 14))
	for _, m := range samples() {
		want := values(must(smith.Factors(m)))
		for _, other := range [][][]api.Int{
			must(matrix.Mul(unimodular(random, len(m)), m)),
			must(matrix.Mul(m, unimodular(random, len(m[0])))),
			between(random, m),
			must(matrix.Transpose(m)),
		} {
			if factors := must(smith.Factors(other)); !isList(factors, want) {
				t.Errorf("%v has the factors %v, and %v has %v", m, want, other, factors)
			}
		}
	}
}

// countMaps returns the number of homomorphisms from the quotient of Z^R by the column lattice to the integers modulo n: the rows x modulo n with x l = 0.
func countMaps(l ints, n int64) int64 {
	count := int64(0)
	forTinyMatrices(1, len(l), 0, n-1, func(x ints) {
		for j := range l[0] {
			total := int64(0)
			for i, row := range l {
				total += x[0][i] * row[j]
			}
			if total%n != 0 {
				return
			}
		}
		count++
	})
	return count
}

// P6.6: the factors describe the quotient. From a cyclic group of order d there are as many homomorphisms to the integers modulo n as the greatest common divisor of d and n, and n from a free one.
func TestFactorsDescribeQuotient(t *testing.T) {
	check := func(l ints) {
		factors := values(must(smith.Factors(of(l))))
		for n := int64(1); n <= 9; n++ {
			want, modulus := big.NewInt(1), big.NewInt(n)
			for i := range l {
				if i < len(factors) {
					want.Mul(want, new(big.Int).GCD(nil, nil, factors[i], modulus))
				} else {
					want.Mul(want, modulus)
				}
			}
			if got := countMaps(l, n); want.Cmp(big.NewInt(got)) != 0 {
				t.Fatalf("%v has the factors %v: there are %d homomorphisms to the integers modulo %d, not %v", l, factors, got, n, want)
			}
		}
	}
	for _, l := range []ints{{{6}}, {{0}}, {{4, 6}}, {{4}, {6}}, {{2, 0}, {0, 3}}, {{4, 0}, {0, 6}}, {{2, 4}, {4, 8}}, {{0, 0}, {0, 0}, {0, 6}}, {{4, 0, 0}, {0, 6, 0}, {0, 0, 9}}, {{6, 0, 0}, {0, 10, 0}, {0, 0, 15}}, {{2, 4, 4}, {-6, 6, 12}, {10, 4, 16}}, {{3, 1}, {1, 3}, {2, 2}}} {
		check(l)
	}
	forTinyMatrices(2, 2, -2, 2, check)
}

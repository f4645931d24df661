package bareiss_test

import (
	"math/big"
	"math/rand/v2"
	"slices"
	"testing"

	"quadform/api"
	"quadform/bareiss"
	"quadform/integer"
	"quadform/matrix"
	"quadform/rational"
)

// P4.6: the last stage is the determinant, and the entries (0, 0) are the leading minors.
func TestPivotsAreMinors(t *testing.T) {
	for _, m := range squares() {
		list, ok := bareiss.Stages(m)
		if !ok {
			continue
		}
		minors := must(bareiss.Leading(m))
		for k, stage := range list {
			if integer.Cmp(stage[0][0], minors[k]) != 0 {
				t.Errorf("entry (0, 0) of stage %d of %v: %v, want %v", k, m, stage[0][0], minors[k])
			}
		}
		last := list[len(list)-1]
		if !matrix.Equal(last, [][]api.Int{{must(matrix.Det(m))}}) {
			t.Errorf("the last stage of %v is %v", m, last)
		}
	}
}

// head returns the first k rows, from column from to column to.
func head(m [][]api.Int, k, from, to int) [][]api.Int {
	var part [][]api.Int
	for _, row := range m[:k] {
		part = append(part, row[from:to])
	}
	return part
}

// plusProducts returns start plus the products of the numbers x and the Rats y.
func plusProducts(start api.Int, x []api.Int, y []api.Rat) *big.Rat {
	total := rational.Whole(start)
	for i := range x {
		total = rational.Add(total, rational.Mul(rational.Whole(x[i]), y[i]))
	}
	return number(total)
}

// number returns the number that a denotes.
func number(a api.Rat) *big.Rat {
	return new(big.Rat).Quo(value(a.Num), value(a.Den))
}

// P4.6: stage k divided by d_k is the Schur complement d - c a^(-1) b of the blocks a, b, c, d of m.
func TestSchurComplement(t *testing.T) {
	for _, m := range squares() {
		list, ok := bareiss.Stages(m)
		if !ok || len(m) > 8 {
			continue
		}
		for k := 1; k < len(m); k++ {
			a, minor := head(m, k, 0, k), value(list[k-1][0][0])
			for j, column := range must(matrix.Transpose(head(m, k, k, len(m)))) {
				x, e := bareiss.Solve(a, column)
				if e != api.OK {
					t.Fatalf("Solve of %v: %v", a, e)
				}
				for i := range list[k] {
					row := m[k+i]
					var opposite []api.Int
					for _, entry := range row[:k] {
						opposite = append(opposite, integer.Neg(entry))
					}
					want := plusProducts(row[k+j], opposite, x)
					if got := new(big.Rat).Quo(value(list[k][i][j]), minor); got.Cmp(want) != 0 {
						t.Fatalf("entry (%d, %d) of stage %d of %v by its minor is %v, want %v", i, j, k, m, got, want)
					}
				}
			}
		}
	}
}

// norm returns z'mz.
func norm(m fractions, z []*big.Rat) *big.Rat {
	total := new(big.Rat)
	for i := range z {
		for j := range z {
			term := new(big.Rat).Mul(z[i], z[j])
			total.Add(total, term.Mul(term, m[i][j]))
		}
	}
	return total
}

// P4.6: y'(stage k)y / d_k is the least norm of all z that end with y.
func TestLeastNorm(t *testing.T) {
	random := rand.New(rand.NewPCG(17, 18))
	for n := 1; n <= 6; n++ {
		m := gram(smallMatrix(random, n, n, 3))
		list := must(bareiss.Stages(m))
		for k := 1; k < n; k++ {
			y := smallMatrix(random, 1, n-k, 9)[0]
			least := new(big.Rat).Quo(norm(fractionsOf(list[k]), valuesOf(y)), value(list[k-1][0][0]))
			z := bestTail(t, m, y)
			if got := norm(fractionsOf(m), z); got.Cmp(least) != 0 {
				t.Errorf("the norm of %v is %v, want %v", z, got, least)
			}
			for range 20 {
				other := slices.Clone(z)
				i := random.IntN(k)
				other[i] = new(big.Rat).Add(other[i], big.NewRat(int64(random.IntN(9)-4), int64(random.IntN(3)+1)))
				if norm(fractionsOf(m), other).Cmp(least) < 0 {
					t.Errorf("the norm of %v is less than %v", other, least)
				}
			}
		}
	}
}

// bestTail returns the column z with the least norm that ends with y: its first entries are -a^(-1) b y for the first rows (a, b) of m.
func bestTail(t *testing.T, m [][]api.Int, y []api.Int) []*big.Rat {
	t.Helper()
	k := len(m) - len(y)
	x, e := bareiss.Solve(head(m, k, 0, k), must(matrix.Apply(head(m, k, k, len(m)), y)))
	if e != api.OK {
		t.Fatalf("Solve: %v", e)
	}
	var z []*big.Rat
	for _, a := range x {
		z = append(z, number(rational.Neg(a)))
	}
	return append(z, valuesOf(y)...)
}

// P4.4 and P4.3: there is a solution exactly if the rank is full.
func TestSolveNeedsFullRank(t *testing.T) {
	for _, m := range squares() {
		rank := must(bareiss.Rank(m))
		if _, e := bareiss.Solve(m, m[0]); (e == api.OK) != (rank == len(m)) {
			t.Errorf("rank %d and error %v of %v", rank, e, m)
		}
	}
}

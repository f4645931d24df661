package gram_test

import (
	"fmt"
	"math/big"
	"math/rand/v2"
	"testing"

	"quadform/api"
	"quadform/gram"
	"quadform/matrix"
)

// P7.9: a unimodular matrix keeps determinant, content and parity.
func TestBaseChangeKeeps(t *testing.T) {
	random := rand.New(rand.NewPCG(9, 10))
	for _, g := range forms() {
		other := right(gram.Transform(g, unimodular(random, len(g))))
		det, e := gram.Det(other)
		expectInt(t, fmt.Sprint("Det of ", other), det, e, value(right(gram.Det(g))))
		content, e := gram.Content(other)
		expectInt(t, fmt.Sprint("Content of ", other), content, e, value(right(gram.Content(g))))
		if right(gram.Even(other)) != right(gram.Even(g)) {
			t.Errorf("the parities of %v and %v differ", g, other)
		}
	}
}

// P7.9: Transform with t and then with u is Transform with t u.
func TestTransformTwice(t *testing.T) {
	random := rand.New(rand.NewPCG(11, 12))
	for _, g := range forms() {
		n := len(g)
		middle := 1 + random.IntN(n)
		first := triangular(random, n)
		for i := range first {
			first[i] = first[i][:middle]
		}
		second := unimodular(random, middle)
		for i := range second {
			second[i] = second[i][:1+middle/2]
		}
		twice, e := gram.Transform(right(gram.Transform(g, first)), second)
		once := right(gram.Transform(g, must(matrix.Mul(first, second))))
		expect(t, fmt.Sprint("Transform of ", g, " by ", first, " and ", second), twice, e, valuesOf(once))
	}
}

// P7.9: Parse(Format(g)) returns g.
func TestParseOfFormat(t *testing.T) {
	for _, g := range forms() {
		parsed, e, line := gram.Parse(right(gram.Format(g)))
		expect(t, fmt.Sprint("Parse of the text of ", g), parsed, e, valuesOf(g))
		if line != 0 {
			t.Errorf("Parse of the text of %v: line %d", g, line)
		}
	}
}

// P7.9: the dual of the dual is g times the power of the determinant with exponent n - 2.
func TestDualOfDual(t *testing.T) {
	for _, g := range forms() {
		n := int64(len(g))
		if n < 2 {
			continue
		}
		dual, det, e := gram.Dual(g)
		if e != api.OK {
			t.Fatalf("Dual of %v: %d", g, e)
		}
		twice, last, e := gram.Dual(dual)
		power := func(exponent int64) *big.Int { return new(big.Int).Exp(value(det), big.NewInt(exponent), nil) }
		expect(t, fmt.Sprint("Dual of the dual of ", g), twice, e, scaled(valuesOf(g), power(n-2)))
		expectInt(t, fmt.Sprint("Dual of the dual of ", g), last, e, power(n-1))
	}
}

// P7.8: g times the matrix of its dual is the determinant times the identity matrix.
func TestDualAsInverse(t *testing.T) {
	for _, g := range forms() {
		dual, det, e := gram.Dual(g)
		expect(t, fmt.Sprint("g times its dual ", g), must(matrix.Mul(g, dual)), e, scaled(valuesOf(of(unit(len(g)))), value(det)))
	}
}

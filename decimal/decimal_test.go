package decimal_test

import (
	"math"
	"math/big"
	"math/rand"
	"testing"

	"tallystone/api"
	"tallystone/decimal"
)

// extremes returns integers at, next to and far beyond all limits of the layer, and small ones.
func extremes() []int {
	numbers := []int{math.MinInt, math.MinInt + 1, math.MaxInt, math.MaxInt - 1}
	for _, n := range []int{0, 5, 9, 10, decimal.MaxNumber / 1000000000, decimal.MaxNumber / 10, decimal.MaxNumber, 1000 * decimal.MaxNumber} {
		for _, d := range []int{-1, 0, 1} {
			numbers = append(numbers, n+d, -n-d)
		}
	}
	return numbers
}

// randomNumber returns a small number, one near the limit, or any one.
func randomNumber(r *rand.Rand) int {
	n := r.Intn(decimal.MaxNumber + 1)
	switch r.Intn(3) {
	case 0:
		n = r.Intn(10000)
	case 1:
		n = decimal.MaxNumber - r.Intn(10000)
	}
	if r.Intn(2) == 0 {
		return -n
	}
	return n
}

// valueOf returns the number that an integer and a scale stand for.
func valueOf(n, scale int) *big.Rat {
	unit := new(big.Int).Exp(big.NewInt(10), big.NewInt(int64(scale)), nil)
	return new(big.Rat).SetFrac(big.NewInt(int64(n)), unit)
}

func TestConstants(t *testing.T) {
	modes := [...]int{decimal.HalfAway, decimal.HalfEven, decimal.Down, decimal.Up, decimal.Floor, decimal.Ceiling}
	if modes != [...]int{0, 1, 2, 3, 4, 5} || decimal.MaxScale != 9 || decimal.MaxNumber != 1000000000000000 {
		t.Error("constants", modes, decimal.MaxScale, decimal.MaxNumber)
	}
}

// P3.1: both limits of the integer and of the scale.
func TestValid(t *testing.T) {
	const most = decimal.MaxNumber
	for _, c := range []struct {
		n, scale int
		want     bool
	}{
		{0, 0, true}, {0, 9, true}, {most, 0, true}, {most, 9, true}, {-most, 0, true}, {-most, 9, true}, {12345, 4, true},
		{most + 1, 0, false}, {-most - 1, 0, false}, {most + 1, 9, false}, {0, -1, false}, {0, 10, false}, {most, 10, false},
		{math.MaxInt, 0, false}, {math.MinInt, 0, false}, {0, math.MaxInt, false}, {0, math.MinInt, false},
	} {
		if decimal.Valid(c.n, c.scale) != c.want {
			t.Errorf("Valid(%d, %d) is not %t", c.n, c.scale, c.want)
		}
	}
}

// P3.1: equal numbers of different scales, signs, and numbers that are too long for the greatest scale.
func TestCompare(t *testing.T) {
	const most = decimal.MaxNumber
	for _, c := range []struct{ a, scaleA, b, scaleB, want int }{
		{0, 0, 0, 9, 0}, {15, 1, 1500, 3, 0}, {-15, 1, -1500, 3, 0}, {-15, 1, -14, 1, -1}, {15, 1, 14, 1, 1},
		{1, 0, 999999999, 9, 1}, {1, 0, 1000000001, 9, -1}, {-1, 0, -999999999, 9, -1}, {-1, 0, -1000000001, 9, 1},
		{5, 1, -5, 1, 1}, {-1, 9, 0, 0, -1}, {-1, 9, 1, 9, -1}, {1, 9, 0, 3, 1}, {12, 1, 13, 1, -1}, {-12, 1, -13, 1, 1},
		{most, 0, most, 9, 1}, {-most, 0, -most, 9, -1}, {most, 0, most, 0, 0}, {most, 0, most - 1, 0, 1},
		{most, 1, most / 10, 0, 0}, {most - 1, 1, most / 10, 0, -1}, {most, 9, 1000000, 0, 0}, {most - 1, 9, 1000000, 0, -1},
		{-most + 1, 9, -1000000, 0, 1}, {7, 3, 700, 5, 0}, {7, 3, 701, 5, -1}, {-7, 3, -701, 5, 1},
	} {
		order, e := decimal.Compare(c.a, c.scaleA, c.b, c.scaleB)
		reverse, f := decimal.Compare(c.b, c.scaleB, c.a, c.scaleA)
		if order != c.want || reverse != -c.want || e != api.OK || f != api.OK {
			t.Errorf("Compare(%d, %d, %d, %d): %d and %d, errors %d and %d", c.a, c.scaleA, c.b, c.scaleB, order, reverse, e, f)
		}
	}
}

// P3.1: a number that is not valid, on either side.
func TestCompareOfInvalidNumbers(t *testing.T) {
	for _, c := range [][2]int{
		{decimal.MaxNumber + 1, 0}, {-decimal.MaxNumber - 1, 3}, {1, -1}, {1, 10}, {math.MinInt, 9}, {math.MaxInt, 0},
		{0, math.MinInt}, {0, math.MaxInt},
	} {
		for _, other := range [][2]int{{5, 1}, c} {
			left, e := decimal.Compare(c[0], c[1], other[0], other[1])
			right, f := decimal.Compare(other[0], other[1], c[0], c[1])
			if left != 0 || right != 0 || e != api.ErrRange || f != api.ErrRange {
				t.Errorf("Compare of %d and %d: %d and %d, errors %d and %d", c, other, left, right, e, f)
			}
		}
	}
}

// P3.1: Compare compared with another implementation.
func TestCompareOfMany(t *testing.T) {
	r := rand.New(rand.NewSource(1))
	for range 20000 {
		a, scaleA, scaleB := randomNumber(r), r.Intn(10), r.Intn(10)
		b, e := decimal.Rescale(a, scaleA, scaleB, r.Intn(6))
		if e != api.OK || r.Intn(4) == 0 {
			b = randomNumber(r)
		}
		want := valueOf(a, scaleA).Cmp(valueOf(b, scaleB))
		if order, e := decimal.Compare(a, scaleA, b, scaleB); order != want || e != api.OK {
			t.Errorf("Compare(%d, %d, %d, %d): %d, error %d, not %d", a, scaleA, b, scaleB, order, e, want)
		}
	}
}

// P1: every function answers whatever its arguments are.
func TestTotality(t *testing.T) {
	for _, a := range extremes() {
		for _, b := range extremes() {
			decimal.Valid(a, b)
			decimal.Text(a, b)
			decimal.Parse(decimal.Text(a, 0), b)
			for _, c := range []int{math.MinInt, -1, 0, 1, 2, 3, 4, 5, 6, 9, 10, math.MaxInt} {
				decimal.Round(a, b, c)
				decimal.Quantize(a, b, c)
				decimal.Compare(a, c, b, c)
				decimal.Compare(a, b, c, a)
				for _, d := range extremes() {
					decimal.Rescale(a, b, d, c)
					decimal.Rescale(a, c, d, b)
				}
			}
		}
	}
}

package allocate_test

import (
	"math"
	"math/big"
	"math/rand"
	"slices"
	"testing"

	"tallystone/allocate"
	"tallystone/api"
)

// split returns a split that a test knows to be there.
func split(t *testing.T, total int, weights []int) []int {
	t.Helper()
	parts, e := allocate.Split(total, weights)
	if e != api.OK {
		t.Fatalf("Split(%d, %d): error %d", total, weights, e)
	}
	return parts
}

// sumOf returns the sum of integers that is an int.
func sumOf(l []int) int {
	sum := 0
	for _, n := range l {
		sum += n
	}
	return sum
}

// exactSplit returns a split as another implementation finds it: it gives the units that are left one by one, each to the
// first of the greatest remainders, which then has none any more.
func exactSplit(total int, weights []int) []int {
	whole := big.NewInt(int64(sumOf(weights)))
	parts, remainders := make([]int, len(weights)), make([]int, len(weights))
	left := max(total, -total)
	for i, w := range weights {
		product := new(big.Int).Mul(big.NewInt(int64(max(total, -total))), big.NewInt(int64(w)))
		quotient, remainder := new(big.Int).QuoRem(product, whole, new(big.Int))
		parts[i], remainders[i] = int(quotient.Int64()), int(remainder.Int64())
		left -= parts[i]
	}
	for range left {
		greatest := 0
		for i, n := range remainders {
			if n > remainders[greatest] {
				greatest = i
			}
		}
		parts[greatest]++
		remainders[greatest] = -1
	}
	if total < 0 {
		for i := range parts {
			parts[i] = -parts[i]
		}
	}
	return parts
}

// randomWeights returns weights, some of which are 0, but not all, and many of which are equal.
func randomWeights(r *rand.Rand, length, limit int) []int {
	weights := make([]int, length)
	for i := range weights {
		weights[i] = r.Intn(limit + 1)
		if i > 0 && r.Intn(3) == 0 {
			weights[i] = weights[r.Intn(i)]
		}
		if r.Intn(8) == 0 {
			weights[i] = 0
		}
	}
	if sumOf(weights) == 0 {
		weights[r.Intn(length)] = 1 + r.Intn(limit)
	}
	return weights
}

// P5.1: the examples, equal and unequal remainders, weights of 0, totals and weights at their limits.
func TestSplit(t *testing.T) {
	for _, c := range []struct {
		total         int
		weights, want []int
	}{
		{100, []int{1, 1, 1}, []int{34, 33, 33}}, {-100, []int{1, 1, 1}, []int{-34, -33, -33}}, {-7, []int{1, 2}, []int{-2, -5}}, {7, []int{1, 2}, []int{2, 5}},
		{101, []int{1, 1, 1}, []int{34, 34, 33}}, {99, []int{1, 1, 1}, []int{33, 33, 33}}, {0, []int{3, 4}, []int{0, 0}}, {5, []int{7}, []int{5}},
		{10, []int{1, 2, 4}, []int{1, 3, 6}}, {10, []int{4, 2, 1}, []int{6, 3, 1}}, {-10, []int{4, 2, 1}, []int{-6, -3, -1}},
		{1, []int{1, 1}, []int{1, 0}}, {-1, []int{1, 1}, []int{-1, 0}}, {1, []int{1, 2, 1}, []int{0, 1, 0}}, {2, []int{1, 2, 1}, []int{1, 1, 0}},
		{3, []int{1, 2, 1}, []int{1, 1, 1}}, {1, []int{2, 3, 3}, []int{0, 1, 0}}, {2, []int{2, 3, 3}, []int{0, 1, 1}}, {3, []int{2, 3, 3}, []int{1, 1, 1}},
		// The remainders 0 and 4 of 6: the greater part has none.
		{4, []int{3, 1, 1, 1}, []int{2, 1, 1, 0}}, {5, []int{0, 0, 9}, []int{0, 0, 5}}, {2, []int{0, 1, 0, 1, 1}, []int{0, 1, 0, 1, 0}}, {1, []int{0, 0, 1, 0}, []int{0, 0, 1, 0}},
		{1, []int{1, 1000000}, []int{0, 1}}, {500000, []int{1, 1000000}, []int{0, 500000}}, {500001, []int{1, 1000000}, []int{1, 500000}},
		{most, []int{1000000, 1000000}, []int{most / 2, most / 2}}, {-most, []int{1000000, 1000000}, []int{-most / 2, -most / 2}}, {most, []int{1000000}, []int{most}},
		{most, []int{1, 999999}, []int{1000000, most - 1000000}}, {most, []int{1, 1, 1}, []int{333333333334, 333333333333, 333333333333}},
		{-most, []int{1, 2}, []int{-333333333333, -666666666667}}, {most - 1, []int{1000000, 999999}, []int{500000250000, 499999749999}},
	} {
		before := slices.Clone(c.weights)
		if l, e := allocate.Split(c.total, c.weights); !slices.Equal(l, c.want) || e != api.OK {
			t.Errorf("Split(%d, %d): %d, error %d, not %d", c.total, c.weights, l, e, c.want)
		}
		if !slices.Equal(c.weights, before) {
			t.Errorf("Split changed %d to %d", before, c.weights)
		}
	}
}

// P5.1: the arguments that are not allowed, and their order. No parts are a fair split of them.
func TestSplitErrors(t *testing.T) {
	many := slices.Repeat([]int{1}, 1001)
	for _, c := range []struct {
		total   int
		weights []int
		e       api.Errno
	}{
		{5, nil, api.ErrArg}, {0, nil, api.ErrArg}, {5, []int{}, api.ErrArg}, {5, many, api.ErrArg}, {1001, many, api.ErrArg}, {5, make([]int, 1001), api.ErrArg},
		{most + 1, []int{1}, api.ErrArg}, {-most - 1, []int{1}, api.ErrArg}, {math.MinInt, []int{1}, api.ErrArg}, {math.MaxInt, []int{1}, api.ErrArg},
		{most + 1, []int{0}, api.ErrArg}, {-most - 1, []int{0, 0}, api.ErrArg}, {5, []int{-1}, api.ErrArg}, {5, []int{1, -1}, api.ErrArg}, {5, []int{2, -1}, api.ErrArg},
		{5, []int{0, -1, 0}, api.ErrArg}, {5, []int{1000001}, api.ErrArg}, {5, []int{1, 0, 1000001}, api.ErrArg}, {0, []int{1, 1000001}, api.ErrArg},
		{5, []int{math.MaxInt, math.MaxInt, 2}, api.ErrArg}, {5, []int{math.MinInt, math.MinInt}, api.ErrArg}, {5, []int{1, math.MinInt}, api.ErrArg},
		{5, []int{0}, api.ErrDivide}, {0, []int{0}, api.ErrDivide}, {5, []int{0, 0}, api.ErrDivide}, {-most, []int{0, 0, 0}, api.ErrDivide}, {5, make([]int, 1000), api.ErrDivide},
	} {
		if l, e := allocate.Split(c.total, c.weights); len(l) != 0 || e != c.e {
			t.Errorf("Split(%d, %d): %d, error %d, not error %d", c.total, c.weights, l, e, c.e)
		}
		parts := make([]int, len(c.weights))
		if len(parts) > 0 {
			parts[0] = c.total
		}
		for _, l := range [][]int{nil, c.weights, parts} {
			if allocate.Fair(c.total, c.weights, l) {
				t.Errorf("Fair(%d, %d, %d)", c.total, c.weights, l)
			}
		}
	}
}

// P5.1: the limits of the number of parts, of totals, and splits of both signs.
func TestEven(t *testing.T) {
	for _, c := range []struct {
		total, n int
		want     []int
	}{
		{11, 4, []int{3, 3, 3, 2}}, {-11, 4, []int{-3, -3, -3, -2}}, {-1, 2, []int{-1, 0}}, {0, 3, []int{0, 0, 0}}, {7, 1, []int{7}}, {2, 5, []int{1, 1, 0, 0, 0}},
		{12, 4, []int{3, 3, 3, 3}}, {most, 1, []int{most}}, {-most, 3, []int{-333333333334, -333333333333, -333333333333}},
		{most, 1000, slices.Repeat([]int{most / 1000}, 1000)}, {1000, 1000, slices.Repeat([]int{1}, 1000)},
		{-1500, 1000, append(slices.Repeat([]int{-2}, 500), slices.Repeat([]int{-1}, 500)...)},
	} {
		if l, e := allocate.Even(c.total, c.n); !slices.Equal(l, c.want) || e != api.OK {
			t.Errorf("Even(%d, %d): %d, error %d, not %d", c.total, c.n, l, e, c.want)
		}
	}
	for _, n := range []int{0, -1, 1001, 1 << 40, math.MaxInt, math.MinInt} {
		for _, total := range []int{0, 1, -most, most + 1} {
			if l, e := allocate.Even(total, n); len(l) != 0 || e != api.ErrArg {
				t.Errorf("Even(%d, %d): %d, error %d", total, n, l, e)
			}
		}
	}
	for _, total := range []int{most + 1, -most - 1, math.MaxInt, math.MinInt} {
		for _, n := range []int{1, 2, 1000} {
			if l, e := allocate.Even(total, n); len(l) != 0 || e != api.ErrArg {
				t.Errorf("Even(%d, %d): %d, error %d", total, n, l, e)
			}
		}
	}
}

// P5.1: splits compared with another implementation, up to the greatest totals, weights and numbers of parts.
func TestSplitOfRandomTotals(t *testing.T) {
	r := rand.New(rand.NewSource(3))
	wantSame := func(total int, weights []int) {
		t.Helper()
		if got, want := split(t, total, weights), exactSplit(total, weights); !slices.Equal(got, want) {
			t.Errorf("Split(%d, %d): %d, not %d", total, weights, got, want)
		}
	}
	for range 20000 {
		wantSame(randomAmount(r), randomWeights(r, 1+r.Intn(12), 1+r.Intn(1+r.Intn(1000000))))
	}
	for range 40 {
		wantSame(randomAmount(r), randomWeights(r, 1+r.Intn(1000), 1+r.Intn(20)))
	}
	greatest := slices.Repeat([]int{1000000}, 1000)
	for _, total := range []int{most, -most, most - 1, 1 - most, 999, -999} {
		wantSame(total, greatest)
		wantSame(total, append(slices.Clone(greatest[:999]), 999999))
	}
}

// P5.3: what the parts of a total that is not negative say about each other, and about its negative.
func wantSplit(t *testing.T, total int, weights []int) {
	t.Helper()
	parts := split(t, total, weights)
	if len(parts) != len(weights) || sumOf(parts) != total || !allocate.Fair(total, weights, parts) {
		t.Fatalf("Split(%d, %d): %d", total, weights, parts)
	}
	for i, w := range weights {
		if w == 0 && parts[i] != 0 {
			t.Errorf("Split(%d, %d): %d, with a part for the weight 0", total, weights, parts)
		}
		for j := range i {
			difference := parts[j] - parts[i]
			isOrdered := w == weights[j] && (difference == 0 || difference == 1) || w < weights[j] && difference >= 0 || w > weights[j] && difference <= 0
			if !isOrdered {
				t.Errorf("Split(%d, %d): %d, of which part %d and %d are not as their weights", total, weights, parts, j, i)
			}
		}
	}
	opposite := split(t, -total, weights)
	for i, part := range parts {
		if opposite[i] != -part {
			t.Errorf("Split(%d, %d): %d, but %d for the negative total", total, weights, parts, opposite)
		}
	}
	if !allocate.Fair(-total, weights, opposite) {
		t.Errorf("Split(%d, %d): %d, not fair", -total, weights, opposite)
	}
}

// P5.3: all small totals and weights, and random ones.
func TestSplitIsFair(t *testing.T) {
	for code := 1; code < 5*5*5*5; code++ {
		weights := []int{code % 5, code / 5 % 5, code / 25 % 5, code / 125}
		for total := range 20 {
			wantSplit(t, total, weights)
		}
	}
	r := rand.New(rand.NewSource(4))
	for range 5000 {
		total := randomAmount(r)
		wantSplit(t, max(total, -total), randomWeights(r, 1+r.Intn(12), 1+r.Intn(1+r.Intn(1000000))))
	}
	for range 10 {
		wantSplit(t, r.Intn(3000), randomWeights(r, 1000, 1+r.Intn(5)))
	}
}

// P5.4: multiples of all weights, up to the greatest ones, lead to the same parts.
func TestSplitByMultiples(t *testing.T) {
	r := rand.New(rand.NewSource(5))
	for range 10000 {
		total, limit := randomAmount(r), 1+r.Intn(1+r.Intn(1000000))
		weights := randomWeights(r, 1+r.Intn(12), limit)
		for _, factor := range []int{2, 3, 1 + r.Intn(1000000/limit), 1000000 / slices.Max(weights)} {
			multiples := slices.Clone(weights)
			for i := range multiples {
				multiples[i] *= factor
			}
			if slices.Max(multiples) > 1000000 {
				continue
			}
			if a, b := split(t, total, weights), split(t, total, multiples); !slices.Equal(a, b) {
				t.Errorf("Split(%d, %d): %d, but %d for weights %d times as great", total, weights, a, b, factor)
			}
		}
	}
}

// P5.1: results are new memory.
func TestSplitKeepsNothing(t *testing.T) {
	weights := []int{1, 2, 3}
	first := split(t, 6, weights)
	first[0] = 9
	if second := split(t, 6, weights); !slices.Equal(second, []int{1, 2, 3}) || !slices.Equal(weights, second) || first[0] != 9 {
		t.Errorf("%d the first time, then %d, and the weights are %d", first, second, weights)
	}
}

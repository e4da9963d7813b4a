package allocate_test

import (
	"math"
	"math/big"
	"math/rand"
	"slices"
	"testing"

	"tallystone/allocate"
)

// isFair is another implementation of Fair for totals and weights that Split accepts.
func isFair(total int, weights, parts []int) bool {
	if len(parts) != len(weights) {
		return false
	}
	sum := new(big.Int)
	for i, part := range parts {
		exact := new(big.Rat).SetFrac(big.NewInt(int64(weights[i])), big.NewInt(int64(sumOf(weights))))
		exact.Mul(exact, new(big.Rat).SetInt64(int64(total)))
		distance := exact.Sub(exact, new(big.Rat).SetInt64(int64(part)))
		if distance.Abs(distance).Cmp(big.NewRat(1, 1)) >= 0 {
			return false
		}
		sum.Add(sum, big.NewInt(int64(part)))
	}
	return sum.Cmp(big.NewInt(int64(total))) == 0
}

// P5.1: distances on the side of 0 and beyond, distances of 1, sums that are not the total, and other numbers of parts.
func TestFair(t *testing.T) {
	for _, c := range []struct {
		total          int
		weights, parts []int
		want           bool
	}{
		{100, []int{1, 1, 1}, []int{34, 33, 33}, true}, {100, []int{1, 1, 1}, []int{33, 34, 33}, true}, {100, []int{1, 1, 1}, []int{33, 33, 34}, true},
		{100, []int{1, 1, 1}, []int{33, 33, 33}, false}, {100, []int{1, 1, 1}, []int{34, 34, 33}, false}, {100, []int{1, 1, 1}, []int{34, 34, 32}, false},
		{100, []int{1, 1, 1}, []int{35, 33, 32}, false}, {100, []int{1, 1, 1}, []int{-34, -33, -33}, false}, {-100, []int{1, 1, 1}, []int{-33, -33, -34}, true},
		{-100, []int{1, 1, 1}, []int{34, 33, 33}, false}, {-7, []int{1, 2}, []int{-2, -5}, true}, {-7, []int{1, 2}, []int{-3, -4}, true},
		{-7, []int{1, 2}, []int{-1, -6}, false}, {-7, []int{1, 2}, []int{-4, -3}, false}, {7, []int{1, 2}, []int{3, 4}, true}, {7, []int{1, 2}, []int{1, 6}, false},
		{10, []int{1, 1}, []int{5, 5}, true}, {10, []int{1, 1}, []int{6, 4}, false}, {10, []int{1, 1}, []int{4, 6}, false}, {-10, []int{1, 1}, []int{-4, -6}, false},
		{1, []int{1, 1}, []int{0, 1}, true}, {1, []int{1, 1}, []int{2, -1}, false}, {-1, []int{1, 1}, []int{0, -1}, true}, {-1, []int{1, 1}, []int{1, -2}, false},
		{1, []int{1, 1, 1}, []int{1, 1, -1}, false}, {3, []int{0, 1}, []int{0, 3}, true}, {3, []int{0, 1}, []int{1, 2}, false}, {1, []int{0, 1, 1}, []int{1, 0, 0}, false},
		{0, []int{1, 2}, []int{0, 0}, true}, {0, []int{1, 2}, []int{1, -1}, false}, {0, []int{1}, []int{1}, false}, {5, []int{9}, []int{5}, true}, {5, []int{9}, []int{4}, false},
		{0, []int{1}, nil, false}, {0, []int{1}, []int{0, 0}, false}, {5, []int{1, 1}, []int{5}, false}, {5, []int{1}, []int{5, 0}, false}, {0, []int{1, 1}, []int{0}, false},
		{4, []int{1, 1}, []int{2, 2, 0}, false}, {most, []int{1000000, 1000000}, []int{most / 2, most / 2}, true}, {most, []int{1000000}, []int{most}, true},
		{-most, []int{1000000, 0}, []int{-most, 0}, true}, {most, []int{1, 2}, []int{333333333334, 666666666666}, true}, {most, []int{1, 2}, []int{333333333332, 666666666668}, false},
		// The sums wrap around to the total.
		{0, []int{1, 1}, []int{math.MinInt, math.MinInt}, false}, {-2, []int{1, 1}, []int{math.MaxInt, math.MaxInt}, false}, {-1, []int{1, 1}, []int{math.MaxInt, math.MinInt}, false},
		{1, []int{1, 1, 0}, []int{math.MaxInt, math.MinInt, 2}, false}, {0, []int{1}, []int{math.MinInt}, false},
		{0, []int{1, 1, 1, 1}, []int{1 << 62, 1 << 62, 1 << 62, 1 << 62}, false},
		// The product of the part and the sum of the weights wraps around to 0.
		{0, []int{1 << 16, 0}, []int{1 << 48, -1 << 48}, false},
	} {
		weights, parts := slices.Clone(c.weights), slices.Clone(c.parts)
		if allocate.Fair(c.total, c.weights, c.parts) != c.want {
			t.Errorf("Fair(%d, %d, %d) is not %t", c.total, c.weights, c.parts, c.want)
		}
		if !slices.Equal(weights, c.weights) || !slices.Equal(parts, c.parts) {
			t.Errorf("Fair changed %d to %d, and %d to %d", weights, c.weights, parts, c.parts)
		}
	}
}

// P5.1: all parts near 0 of all small totals and weights, compared with another implementation.
func TestFairOfSmallParts(t *testing.T) {
	for code := 1; code < 4*4*4; code++ {
		weights := []int{code % 4, code / 4 % 4, code / 16}
		for total := -5; total <= 5; total++ {
			for a := -4; a <= 4; a++ {
				for b := -4; b <= 4; b++ {
					for c := total - a - b - 1; c <= total-a-b+1; c++ {
						parts := []int{a, b, c}
						if want := isFair(total, weights, parts); allocate.Fair(total, weights, parts) != want {
							t.Errorf("Fair(%d, %d, %d) is not %t", total, weights, parts, want)
						}
					}
				}
			}
		}
	}
}

// P5.1: splits of great totals with units that are moved between parts, compared with another implementation.
func TestFairOfMovedUnits(t *testing.T) {
	r := rand.New(rand.NewSource(6))
	counts := map[bool]int{}
	for range 20000 {
		total, length := randomAmount(r), 1+r.Intn(6)
		weights := randomWeights(r, length, 1+r.Intn(1+r.Intn(1000000)))
		parts := split(t, total, weights)
		for range r.Intn(3) {
			parts[r.Intn(length)]++
			parts[r.Intn(length)]--
		}
		if r.Intn(8) == 0 {
			parts[r.Intn(length)] += r.Intn(3) - 1
		}
		want := isFair(total, weights, parts)
		if allocate.Fair(total, weights, parts) != want {
			t.Errorf("Fair(%d, %d, %d) is not %t", total, weights, parts, want)
		}
		counts[want]++
	}
	if counts[true] < 4000 || counts[false] < 4000 {
		t.Errorf("%d fair splits and %d others", counts[true], counts[false])
	}
}

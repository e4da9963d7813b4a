package allocate_test

import (
	"math"
	"math/big"
	"math/rand"
	"slices"
	"testing"

	"tallystone/allocate"
	"tallystone/api"
	"tallystone/money"
)

const most = api.MaxAmount

// randomAmount returns an amount, of any length.
func randomAmount(r *rand.Rand) int {
	limit := 1
	for range r.Intn(13) {
		limit *= 10
	}
	return r.Intn(2*limit+1) - limit
}

// running returns running portions that a test knows to be there.
func running(t *testing.T, l []int, num, den int) []int {
	t.Helper()
	portions, e := allocate.Running(l, num, den)
	if e != api.OK {
		t.Fatalf("Running(%d, %d, %d): error %d", l, num, den, e)
	}
	return portions
}

// portion returns a portion that a test knows to be an amount.
func portion(t *testing.T, n, num, den int) int {
	t.Helper()
	p, e := money.Portion(n, num, den)
	if e != api.OK {
		t.Fatalf("Portion(%d, %d, %d): error %d", n, num, den, e)
	}
	return p
}

// exactPortion returns a portion of any integer: the absolute value and a half, rounded down, with the sign.
func exactPortion(n *big.Int, num, den int) *big.Int {
	twice := new(big.Int).Abs(n)
	twice.Mul(twice, big.NewInt(2*int64(num)))
	twice.Add(twice, big.NewInt(int64(den)))
	rounded := twice.Div(twice, big.NewInt(2*int64(den)))
	if n.Sign() < 0 {
		return rounded.Neg(rounded)
	}
	return rounded
}

// exactRunning returns the running portions of amounts from the sums of their beginnings, each made anew.
func exactRunning(l []int, num, den int) ([]int, api.Errno) {
	limit := big.NewInt(most)
	var portions []int
	before := new(big.Int)
	for i := range l {
		sum := new(big.Int)
		for _, n := range l[:i+1] {
			sum.Add(sum, big.NewInt(int64(n)))
		}
		whole := exactPortion(sum, num, den)
		if sum.CmpAbs(limit) > 0 || whole.CmpAbs(limit) > 0 {
			return nil, api.ErrRange
		}
		portions = append(portions, int(new(big.Int).Sub(whole, before).Int64()))
		before = whole
	}
	return portions, api.OK
}

// P5.1: the examples, the empty list, halves on both sides of 0, numerators and denominators at their limits.
func TestRunning(t *testing.T) {
	for _, c := range []struct {
		l        []int
		num, den int
		want     []int
	}{
		{[]int{1, 1, 1}, 1, 2, []int{1, 0, 1}}, {[]int{-1, -1, -1}, 1, 2, []int{-1, 0, -1}}, {[]int{1, 1, 1, 1, 1, 1}, 1, 3, []int{0, 1, 0, 0, 1, 0}},
		{[]int{2, 2, 2}, 2, 3, []int{1, 2, 1}}, {[]int{10, -3, 5}, 1, 1, []int{10, -3, 5}}, {[]int{5, -5, 5}, 1, 2, []int{3, -3, 3}},
		{[]int{3, -4, -4}, 1, 2, []int{2, -3, -2}}, {[]int{1, -2, 1}, 1, 2, []int{1, -2, 1}}, {[]int{0, 0}, 7, 5, []int{0, 0}},
		{[]int{100, 100, 100}, 1150000, 1000000, []int{115, 115, 115}}, {[]int{105, 105, 105}, 110, 100, []int{116, 115, 116}},
		{[]int{7, -9}, 0, 1, []int{0, 0}}, {[]int{most, -most, -most}, 0, 1000000, []int{0, 0, 0}},
		{nil, 1, 3, nil}, {[]int{}, 0, 1, nil}, {nil, most, 1000000, nil}, {nil, most, 1, nil},
		{[]int{7}, 1, 1, []int{7}}, {[]int{7}, 10, 4, []int{18}}, {[]int{-7}, 10, 4, []int{-18}},
		{[]int{1, -1, 1}, most, 1, []int{most, -most, most}}, {[]int{1000000, -1000001, 1}, most, 1000000, []int{most, -most - 1000000, 1000000}},
		{[]int{most, -1, 1, -most}, 1, 1, []int{most, -1, 1, -most}}, {[]int{-most, 1}, 1, 1000000, []int{-1000000, 0}},
		{[]int{499999, 1, 999999, 1}, 1, 1000000, []int{0, 1, 0, 1}}, {[]int{most - 1, 1}, 999999, 1000000, []int{most - 1000001, 1}},
		// Differences of portions, unlike portions, may be greater than every amount.
		{[]int{-600000000000, most}, 5, 3, []int{-most, most + 666666666667}}, {[]int{1, -2}, most, 1, []int{most, -2 * most}},
		{[]int{-5, 10, -10}, most / 5, 1, []int{-most, 2 * most, -2 * most}},
	} {
		before := slices.Clone(c.l)
		if l, e := allocate.Running(c.l, c.num, c.den); !slices.Equal(l, c.want) || e != api.OK {
			t.Errorf("Running(%d, %d, %d): %d, error %d, not %d", c.l, c.num, c.den, l, e, c.want)
		}
		if !slices.Equal(c.l, before) {
			t.Errorf("Running changed %d to %d", before, c.l)
		}
	}
}

// P5.1: elements and fractions that are not allowed, which are named before sums and portions that are no amounts.
func TestRunningErrors(t *testing.T) {
	for _, c := range []struct {
		l        []int
		num, den int
		e        api.Errno
	}{
		{nil, -1, 1, api.ErrArg}, {nil, most + 1, 1, api.ErrArg}, {nil, 1, 0, api.ErrArg}, {nil, 1, -1, api.ErrArg}, {nil, 1, 1000001, api.ErrArg},
		{[]int{1}, -1, 1, api.ErrArg}, {[]int{1}, most + 1, 1000000, api.ErrArg}, {[]int{1}, 1, 0, api.ErrArg}, {[]int{0}, 0, 0, api.ErrArg},
		{[]int{1}, 1, math.MinInt, api.ErrArg}, {[]int{1}, math.MaxInt, 1, api.ErrArg}, {[]int{1}, math.MinInt, 1, api.ErrArg},
		{[]int{1}, 1, math.MaxInt, api.ErrArg}, {[]int{most + 1}, 1, 2, api.ErrArg}, {[]int{-most - 1}, 1, 2, api.ErrArg},
		{[]int{1, 2, most + 1}, 1, 2, api.ErrArg}, {[]int{most, most + 1}, 1, 2, api.ErrArg}, {[]int{most, most, most + 1}, 1, 2, api.ErrArg},
		{[]int{most, 1, math.MinInt}, 1, 1, api.ErrArg}, {[]int{2, math.MaxInt}, most, 1, api.ErrArg}, {[]int{math.MaxInt, math.MinInt}, 0, 1, api.ErrArg},
		{[]int{most, most}, -1, 1, api.ErrArg}, {[]int{most, most}, 1, 0, api.ErrArg}, {[]int{most + 1}, 1, 0, api.ErrArg},
		{[]int{most, 1}, 1, 2, api.ErrRange}, {[]int{most, 1, -1}, 1, 2, api.ErrRange}, {[]int{-most, -1, 1}, 1, 2, api.ErrRange},
		{[]int{most, 1, -1}, 0, 1, api.ErrRange}, {[]int{-most, -most, most}, 1, 1000000, api.ErrRange}, {[]int{0, most, 0, 1, -1}, 1, 2, api.ErrRange},
		{[]int{most}, 2, 1, api.ErrRange}, {[]int{-most}, 2, 1, api.ErrRange}, {[]int{most / 2, 1, -1}, 2, 1, api.ErrRange},
		{[]int{1, 1, -1}, most, 1, api.ErrRange}, {[]int{1, -2, -1}, most, 1, api.ErrRange}, {[]int{1000000, 1, -1}, most, 1000000, api.ErrRange},
		// The portion of the first sum is a half too great; without the half, the next one is an amount.
		{[]int{3}, 666666666667, 2, api.ErrRange}, {[]int{-3, 3}, 666666666667, 2, api.ErrRange}, {[]int{most, -1}, 1000000, 999999, api.ErrRange},
		{[]int{most, most, -most}, most, 1, api.ErrRange},
	} {
		if l, e := allocate.Running(c.l, c.num, c.den); len(l) != 0 || e != c.e {
			t.Errorf("Running(%d, %d, %d): %d, error %d, not error %d", c.l, c.num, c.den, l, e, c.e)
		}
	}
}

// P5.1: random lists, many of whose sums or portions are no amounts, compared with another implementation.
func TestRunningOfRandomLists(t *testing.T) {
	r := rand.New(rand.NewSource(1))
	failures := 0
	for range 20000 {
		l := make([]int, r.Intn(10))
		for i := range l {
			l[i] = randomAmount(r)
		}
		num, den := max(randomAmount(r), 0), 1+r.Intn(1+r.Intn(1000000))
		if r.Intn(3) > 0 {
			num = r.Intn(2*den + 1)
		}
		want, wantError := exactRunning(l, num, den)
		got, e := allocate.Running(l, num, den)
		if !slices.Equal(got, want) || e != wantError {
			t.Errorf("Running(%d, %d, %d): %d, error %d, not %d, error %d", l, num, den, got, e, want, wantError)
		}
		if e != api.OK {
			failures++
		}
	}
	if failures < 1000 || failures > 15000 {
		t.Errorf("%d of 20000 lists have no running portions", failures)
	}
}

// P5.2: what the running portions of a list and the portions say about each other.
func wantRunning(t *testing.T, l []int, num, den int) {
	t.Helper()
	portions := running(t, l, num, den)
	if len(portions) != len(l) {
		t.Fatalf("Running(%d, %d, %d): %d", l, num, den, portions)
	}
	sum, whole := 0, 0
	for i, n := range l {
		sum += n
		whole += portions[i]
		if whole != portion(t, sum, num, den) {
			t.Errorf("Running(%d, %d, %d): %d, of which the first %d do not add up", l, num, den, portions, i+1)
		}
		own, e := money.Portion(n, num, den)
		difference := portions[i] - own
		if e == api.OK && (difference < -1 || difference > 1) {
			t.Errorf("Running(%d, %d, %d): %d, but the portion of %d is %d", l, num, den, portions, n, own)
		}
	}
	for k := range l {
		if !slices.Equal(running(t, l[:k], num, den), portions[:k]) {
			t.Errorf("Running(%d, %d, %d): %d, but not for the first %d", l, num, den, portions, k)
		}
	}
}

// P5.2: the portions add up, are near those of the amounts, and do not depend on the amounts behind them.
func TestRunningAddsUp(t *testing.T) {
	for code := range 7 * 7 * 7 * 7 {
		l := []int{code%7 - 3, code/7%7 - 3, code/49%7 - 3, code/343 - 3}
		for den := 1; den <= 5; den++ {
			for num := range 2*den + 2 {
				wantRunning(t, l, num, den)
			}
		}
	}
	r := rand.New(rand.NewSource(2))
	for range 3000 {
		l := make([]int, r.Intn(12))
		for i := range l {
			l[i] = randomAmount(r) / 100
		}
		den := 1 + r.Intn(1+r.Intn(1000000))
		wantRunning(t, l, r.Intn(2*den+1), den)
	}
}

// P5.2: the halves of a very long list of ones alternate, and add up.
func TestRunningOfLongList(t *testing.T) {
	const length = 100001
	sum := 0
	for i, n := range running(t, slices.Repeat([]int{1}, length), 1, 2) {
		if n != 1-i%2 {
			t.Fatalf("running portion %d is %d", i, n)
		}
		sum += n
	}
	if sum != portion(t, length, 1, 2) {
		t.Errorf("running portions add up to %d", sum)
	}
}

// P5.1: results are new memory, and a call does not depend on the calls before it.
func TestRunningKeepsNothing(t *testing.T) {
	l := []int{1, 1, 1}
	first := running(t, l, 1, 1)
	first[0] = 9
	if !slices.Equal(l, []int{1, 1, 1}) {
		t.Errorf("the result shares memory with the argument %d", l)
	}
	if second := running(t, l, 1, 1); !slices.Equal(second, l) || first[0] != 9 {
		t.Errorf("%d the first time, and then %d", first, second)
	}
}

package money_test

import (
	"math"
	"math/big"
	"math/rand"
	"slices"
	"testing"

	"tallystone/api"
	"tallystone/money"
)

const most = api.MaxAmount

// extremes returns integers at, next to and far beyond all limits of the layer, and small ones.
func extremes() []int {
	l := []int{math.MinInt, math.MinInt + 1, math.MaxInt - 1, math.MaxInt, 0}
	for _, limit := range []int{1, 5, 50, 100, 1000000, most, 1000000000000000000} {
		l = append(l, limit-1, limit, limit+1, -limit-1, -limit, -limit+1)
	}
	return l
}

// randomAmount returns an amount, of any length.
func randomAmount(r *rand.Rand) int {
	limit := 1
	for range r.Intn(13) {
		limit *= 10
	}
	return r.Intn(2*limit+1) - limit
}

// add returns a sum that a test knows to be an amount.
func add(t *testing.T, a, b int) int {
	t.Helper()
	n, e := money.Add(a, b)
	if e != api.OK {
		t.Fatalf("Add(%d, %d): error %d", a, b, e)
	}
	return n
}

// P4.1: both limits, and integers beyond them.
func TestValid(t *testing.T) {
	for _, c := range []struct {
		n    int
		want bool
	}{
		{0, true}, {1, true}, {-1, true}, {most, true}, {-most, true}, {most - 1, true},
		{most + 1, false}, {-most - 1, false}, {math.MaxInt, false}, {math.MinInt, false},
	} {
		if money.Valid(c.n) != c.want {
			t.Errorf("Valid(%d) is not %t", c.n, c.want)
		}
	}
}

// P4.1: sums at the limits and beyond them, and arguments that are no amounts, which are named first.
func TestAdd(t *testing.T) {
	for _, c := range []struct {
		a, b, want int
		e          api.Errno
	}{
		{0, 0, 0, api.OK}, {1050, 105, 1155, api.OK}, {5, -7, -2, api.OK}, {-5, -7, -12, api.OK}, {999999, 1, 1000000, api.OK},
		{most, 0, most, api.OK}, {most, -most, 0, api.OK}, {most - 1, 1, most, api.OK}, {1 - most, -1, -most, api.OK},
		{most, -1, most - 1, api.OK}, {1, -most, 1 - most, api.OK}, {most / 2, most / 2, most, api.OK},
		{1000000, -1, 999999, api.OK}, {-1000000, 1, -999999, api.OK},
		{most, 1, 0, api.ErrRange}, {-most, -1, 0, api.ErrRange}, {most, most, 0, api.ErrRange}, {-most, -most, 0, api.ErrRange},
		{most/2 + 1, most / 2, 0, api.ErrRange}, {most - 999999, 1000000, 0, api.ErrRange},
		{most + 1, 0, 0, api.ErrArg}, {0, most + 1, 0, api.ErrArg}, {-most - 1, 1, 0, api.ErrArg}, {1, -most - 1, 0, api.ErrArg},
		{most + 1, -1, 0, api.ErrArg}, {most + 1, most, 0, api.ErrArg}, {most, most + 1, 0, api.ErrArg},
		{math.MaxInt, 1, 0, api.ErrArg}, {math.MinInt, -1, 0, api.ErrArg}, {math.MaxInt, math.MinInt, 0, api.ErrArg},
	} {
		n, e := money.Add(c.a, c.b)
		reverse, f := money.Add(c.b, c.a)
		if n != c.want || e != c.e || reverse != c.want || f != c.e {
			t.Errorf("Add(%d, %d): %d, error %d, reverse %d, error %d, not %d, error %d", c.a, c.b, n, e, reverse, f, c.want, c.e)
		}
	}
}

// P4.1: the empty list, sums that leave the range on the way, and elements that are no amounts, wherever they stand.
func TestSum(t *testing.T) {
	for _, c := range []struct {
		l    []int
		want int
		e    api.Errno
	}{
		{nil, 0, api.OK}, {[]int{}, 0, api.OK}, {[]int{0}, 0, api.OK}, {[]int{-5}, -5, api.OK}, {[]int{5, -7, 1}, -1, api.OK},
		{[]int{most}, most, api.OK}, {[]int{-most}, -most, api.OK}, {[]int{most, most, -most}, most, api.OK},
		{[]int{most, most, most, -most, -most, -7}, most - 7, api.OK}, {[]int{-most, -1, 1}, -most, api.OK},
		{[]int{most, 1, -1}, most, api.OK}, {[]int{999999, 999999, 999999}, 2999997, api.OK},
		{[]int{most - 999999, 999998, 1}, most, api.OK}, {[]int{999999 - most, -999998, -1}, -most, api.OK},
		{[]int{most, 999999, 999999, -1999998}, most, api.OK}, {[]int{most, 1000000, -999999, -1}, most, api.OK},
		{[]int{most, 1}, 0, api.ErrRange}, {[]int{-most, -1}, 0, api.ErrRange}, {[]int{most, 1000000, -999999}, 0, api.ErrRange},
		{[]int{-most, -1000000, 999999}, 0, api.ErrRange}, {[]int{most, 999999, 1}, 0, api.ErrRange},
		{[]int{most, most, most}, 0, api.ErrRange}, {[]int{-most, 3, -most}, 0, api.ErrRange},
		{[]int{most + 1, -1}, 0, api.ErrArg}, {[]int{most, most, -most - 1}, 0, api.ErrArg}, {[]int{0, most + 1}, 0, api.ErrArg},
		{[]int{most, 1, math.MinInt}, 0, api.ErrArg}, {[]int{math.MaxInt, math.MinInt, 1}, 0, api.ErrArg},
		{[]int{math.MinInt, math.MinInt}, 0, api.ErrArg},
	} {
		before := slices.Clone(c.l)
		if n, e := money.Sum(c.l); n != c.want || e != c.e {
			t.Errorf("Sum(%d): %d, error %d, not %d, error %d", c.l, n, e, c.want, c.e)
		}
		if !slices.Equal(c.l, before) {
			t.Errorf("Sum changed %d to %d", before, c.l)
		}
	}
}

// P4.1: sums that are no int, also if they wrap around to an amount, and sums that are no int on the way only.
func TestSumOfVeryMany(t *testing.T) {
	// So many of the greatest amounts are beyond the greatest int, and twice as many, less one, are beyond all ints.
	const half = math.MaxInt/most + 1
	l := slices.Repeat([]int{most}, 2*half-1)
	if n, e := money.Sum(l[:half]); n != 0 || e != api.ErrRange {
		t.Errorf("Sum beyond the greatest int: %d, error %d", n, e)
	}
	// With this element, the sum is the number of all ints, which wraps around to 0.
	l[0] = math.MaxUint%most + 1
	if n, e := money.Sum(l); n != 0 || e != api.ErrRange {
		t.Errorf("Sum that wraps around: %d, error %d", n, e)
	}
	for i := range l {
		l[i] = -l[i]
	}
	if n, e := money.Sum(l); n != 0 || e != api.ErrRange {
		t.Errorf("Sum of negative amounts that wraps around: %d, error %d", n, e)
	}
	for i := range half {
		l[i] = most
	}
	if n, e := money.Sum(l); n != most || e != api.OK {
		t.Errorf("Sum of negative and positive amounts: %d, error %d", n, e)
	}
}

// P4.1: sums of random lists compared with another implementation. P4.2: the order does not matter.
func TestSumOfMany(t *testing.T) {
	r := rand.New(rand.NewSource(1))
	for range 5000 {
		l, sum := make([]int, r.Intn(12)), new(big.Int)
		for i := range l {
			l[i] = randomAmount(r)
			sum.Add(sum, big.NewInt(int64(l[i])))
		}
		want, wantError := int(sum.Int64()), api.OK
		if want < -most || want > most {
			want, wantError = 0, api.ErrRange
		}
		for range 5 {
			r.Shuffle(len(l), func(i, j int) { l[i], l[j] = l[j], l[i] })
			if n, e := money.Sum(l); n != want || e != wantError {
				t.Errorf("Sum(%d): %d, error %d, not %d, error %d", l, n, e, want, wantError)
			}
		}
	}
}

// P4.2: every order of a list whose sums on the way are no amounts, and of one whose sum is none.
func TestSumOfPermutations(t *testing.T) {
	for _, l := range [][4]int{{most, most, -most, -7}, {-most, -999999, 3, 999995}, {most, 1, most, -most}, {most, 999999, -999999, 1}} {
		want, wantError := money.Sum(l[:])
		for code := range 256 {
			a, b, c, d := code&3, code>>2&3, code>>4&3, code>>6
			if 1<<a|1<<b|1<<c|1<<d != 15 {
				continue
			}
			if n, e := money.Sum([]int{l[a], l[b], l[c], l[d]}); n != want || e != wantError {
				t.Errorf("Sum(%d, %d, %d, %d): %d, error %d, not %d, error %d", l[a], l[b], l[c], l[d], n, e, want, wantError)
			}
		}
	}
}

// P4.2: the negative amount of a summand restores the other one.
func TestAddOfNegative(t *testing.T) {
	r := rand.New(rand.NewSource(2))
	for range 20000 {
		a, b := randomAmount(r), randomAmount(r)
		n, e := money.Add(a, b)
		if e != api.OK {
			continue
		}
		if add(t, n, -b) != a || add(t, n, -a) != b {
			t.Errorf("%d + %d is %d", a, b, n)
		}
	}
}

// P1, P4.1: every function answers whatever its arguments are, with no other result beside an error.
func TestTotality(t *testing.T) {
	wantNone := func(n int, e api.Errno) {
		t.Helper()
		if e != api.OK && n != 0 || !money.Valid(n) {
			t.Errorf("%d, error %d", n, e)
		}
	}
	for _, a := range extremes() {
		if s := money.Text(a); (s != "") != money.Valid(a) {
			t.Errorf("Text(%d): %q", a, s)
		}
		wantNone(money.Parse(money.Text(a)))
		for _, b := range extremes() {
			wantNone(money.Add(a, b))
			wantNone(money.Convert(a, b))
			for _, c := range extremes() {
				wantNone(money.Sum([]int{a, b, c}))
				wantNone(money.Portion(a, b, c))
			}
		}
	}
}

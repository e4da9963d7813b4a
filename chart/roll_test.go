package chart_test

import (
	"math"
	"math/rand"
	"slices"
	"testing"

	"tallystone/api"
	"tallystone/chart"
)

const most = 1000000000000

// balancesOf returns balances from pairs of an account and an amount.
func balancesOf(pairs ...int) []api.Balance {
	var l []api.Balance
	for i := 0; i < len(pairs); i += 2 {
		l = append(l, api.Balance{Account: pairs[i], Amount: pairs[i+1]})
	}
	return l
}

// roll returns rolled balances that a test knows to be there.
func roll(t *testing.T, l []api.Account, balances []api.Balance) []api.Balance {
	t.Helper()
	rolled, e := chart.Roll(l, balances)
	if e != api.OK {
		t.Fatalf("Roll(%v): error %d", balances, e)
	}
	return rolled
}

// amounts returns the amounts of balances by their accounts.
func amounts(balances []api.Balance) map[int]int {
	m := map[int]int{}
	for _, b := range balances {
		m[b.Account] += b.Amount
	}
	return m
}

// randomBalances returns balances of some accounts of a chart, of which some are 0.
func randomBalances(r *rand.Rand, l []api.Account, limit int) []api.Balance {
	var balances []api.Balance
	for _, a := range l {
		if r.Intn(3) > 0 {
			balances = append(balances, api.Balance{Account: a.Code, Amount: r.Intn(2*limit+1) - limit})
		}
	}
	return balances
}

// P8.4: the example, balances of accounts at all heights, of one account, and none.
func TestRoll(t *testing.T) {
	for _, x := range []struct {
		l              []api.Account
		balances, want []api.Balance
	}{
		{example(), balancesOf(1100, 70, 4000, -70), balancesOf(1000, 70, 1100, 70, 4000, -70)},
		{withBases(example()), balancesOf(1100, 70, 4000, -70), balancesOf(1000, 70, 1100, 70, 4000, -70)},
		{sample(), balancesOf(1000, 1, 1100, 20, 1110, 300, 1120, 4000, 1200, 50000), balancesOf(1000, 54321, 1100, 4320, 1110, 300, 1120, 4000, 1200, 50000)},
		{sample(), balancesOf(4000, 5, 4100, -7, 4200, 11, 4900, 13), balancesOf(4000, 5, 4100, -2, 4200, 11, 4900, 22)},
		{sample(), balancesOf(1, 8), balancesOf(1, 8, 99999, 8)}, {sample(), balancesOf(99999, -8), balancesOf(99999, -8)}, {sample(), balancesOf(1, 8, 99999, -9), balancesOf(1, 8, 99999, -1)},
		{sample(), balancesOf(3000, 6, 5000, -6), balancesOf(3000, 6, 5000, -6)}, {sample(), nil, nil}, {sample(), []api.Balance{}, nil}, {nil, nil, nil}, {[]api.Account{}, []api.Balance{}, nil},
		{sample(), balancesOf(1110, 4, 4000, 6), balancesOf(1000, 4, 1100, 4, 1110, 4, 4000, 6, 4100, 6, 4900, 6)},
	} {
		if rolled, e := chart.Roll(x.l, x.balances); e != api.OK || !slices.Equal(rolled, x.want) {
			t.Errorf("Roll(%v): %v, error %d, not %v", x.balances, rolled, e, x.want)
		}
	}
}

// P8.4: sums of 0 are left out, whether of nothing, of zeros, or of amounts that cancel, below and above others.
func TestRollOfZeros(t *testing.T) {
	for _, x := range []struct{ balances, want []api.Balance }{
		{balancesOf(1000, 0), nil}, {balancesOf(1, 0, 1000, 0, 1100, 0, 99999, 0), nil}, {balancesOf(1110, 5, 1120, -5), balancesOf(1110, 5, 1120, -5)},
		{balancesOf(1100, 5, 1110, -5), balancesOf(1110, -5)}, {balancesOf(1000, -5, 1110, 5), balancesOf(1100, 5, 1110, 5)},
		{balancesOf(1110, 5, 1200, -5), balancesOf(1100, 5, 1110, 5, 1200, -5)}, {balancesOf(1110, 0, 1200, -5), balancesOf(1000, -5, 1200, -5)},
		{balancesOf(1, most, 99999, -most), balancesOf(1, most)}, {balancesOf(4000, 3, 4100, -3, 4200, 7, 4900, -7), balancesOf(4000, 3, 4200, 7)},
	} {
		if rolled, e := chart.Roll(sample(), x.balances); e != api.OK || !slices.Equal(rolled, x.want) {
			t.Errorf("Roll(%v): %v, error %d, not %v", x.balances, rolled, e, x.want)
		}
	}
}

// P8.4: lists that are no charts, with and without balances, also with such that are none.
func TestRollWithoutChart(t *testing.T) {
	for name, l := range notCharts() {
		for _, balances := range [][]api.Balance{nil, balancesOf(1000, 1), balancesOf(10, 1), balancesOf(0, 0), balancesOf(1000, most, 1100, most), balancesOf(1000, most+1)} {
			if rolled, e := chart.Roll(l, balances); e != api.ErrArg || len(rolled) != 0 {
				t.Errorf("%s: Roll(%v): %v, error %d", name, balances, rolled, e)
			}
		}
	}
}

// P8.4: accounts that are none of the chart, in a wrong order or equal, and amounts beyond the limit.
func TestRollOfNoBalances(t *testing.T) {
	for _, balances := range [][]api.Balance{
		balancesOf(0, 1), balancesOf(0, 0), balancesOf(-1, 1), balancesOf(2, 1), balancesOf(1105, 1), balancesOf(100000, 1), balancesOf(1000, 1, 1105, 1), balancesOf(1000, 1, 100000, 1),
		balancesOf(math.MaxInt, 1), balancesOf(math.MinInt, 1), balancesOf(1<<32+1000, 1), balancesOf(999, 1, 1000, 1),
		balancesOf(1000, 1, 1000, 1), balancesOf(1000, 0, 1000, 0), balancesOf(1100, 1, 1000, 1), balancesOf(1000, 1, 1200, 1, 1100, 1), balancesOf(1, 1, 99999, 1, 5000, 1),
		balancesOf(99999, 1, 1, 1), balancesOf(1000, most+1), balancesOf(1000, -most-1), balancesOf(1000, math.MaxInt), balancesOf(1000, math.MinInt), balancesOf(1000, math.MinInt+1),
		balancesOf(1, 1, 1000, most+1), balancesOf(1, 1, 1000, 1<<32*1000), balancesOf(1000, most+1, 1100, -most), balancesOf(1, 1, 99999, -most-1),
		// Sums beyond the limit are named behind what is no balance, wherever it stands.
		balancesOf(1000, most, 1100, most, 1105, 1), balancesOf(1000, most, 1100, most, 1100, 1), balancesOf(1000, most, 1100, most, 1110, most+1), balancesOf(0, 1, 1000, most, 1100, most),
	} {
		if rolled, e := chart.Roll(sample(), balances); e != api.ErrArg || len(rolled) != 0 {
			t.Errorf("Roll(%v): %v, error %d", balances, rolled, e)
		}
	}
	for _, balances := range [][]api.Balance{balancesOf(1000, 0), balancesOf(1, 1), balancesOf(0, 0)} {
		if rolled, e := chart.Roll(nil, balances); e != api.ErrArg || len(rolled) != 0 {
			t.Errorf("Roll(%v) without accounts: %v, error %d", balances, rolled, e)
		}
	}
}

// P8.4: sums at the limit and beyond it, at all heights; a sum may be in range though some amounts in it add up to more.
func TestRollAtLimits(t *testing.T) {
	for _, x := range []struct {
		balances, want []api.Balance
		e              api.Errno
	}{
		{balancesOf(1000, most), balancesOf(1000, most), api.OK}, {balancesOf(1000, -most), balancesOf(1000, -most), api.OK},
		{balancesOf(1000, most-1, 1200, 1), balancesOf(1000, most, 1200, 1), api.OK}, {balancesOf(1000, 1-most, 1200, -1), balancesOf(1000, -most, 1200, -1), api.OK},
		{balancesOf(1000, most, 1200, 1), nil, api.ErrRange}, {balancesOf(1000, -most, 1200, -1), nil, api.ErrRange}, {balancesOf(1000, 1, 1110, most), nil, api.ErrRange},
		{balancesOf(1110, most, 1120, 1, 1200, -1), nil, api.ErrRange}, {balancesOf(1110, -most, 1120, -1, 1200, 1), nil, api.ErrRange},
		{balancesOf(1000, most, 1100, most, 1110, most), nil, api.ErrRange}, {balancesOf(1, most, 99999, most), nil, api.ErrRange}, {balancesOf(4000, most, 4900, 1), nil, api.ErrRange},
		{balancesOf(1000, most, 1100, -most, 1110, most), balancesOf(1000, most, 1110, most), api.OK},
		{balancesOf(1000, most, 1100, most, 1110, -most), balancesOf(1000, most, 1110, -most), api.OK},
		{balancesOf(1, most, 1000, most, 3000, most, 5000, most), balancesOf(1, most, 1000, most, 3000, most, 5000, most, 99999, most), api.OK},
	} {
		if rolled, e := chart.Roll(sample(), x.balances); e != x.e || !slices.Equal(rolled, x.want) {
			t.Errorf("Roll(%v): %v, error %d, not %v, error %d", x.balances, rolled, e, x.want, x.e)
		}
	}
}

// P8.4: the most accounts with the greatest amounts, on one way and below one account.
func TestRollOfManyAmounts(t *testing.T) {
	flat := chain(200, false)
	for i := 1; i < 200; i++ {
		flat[i].Parent = 10
	}
	for _, l := range [][]api.Account{chain(200, true), chain(200, false), flat} {
		for _, amount := range []int{most, -most, most / 200, most/200 + 1} {
			balances := make([]api.Balance, 200)
			for i := range balances {
				balances[i] = api.Balance{Account: l[i].Code, Amount: amount}
			}
			want := api.ErrRange
			if amount == most/200 {
				want = api.OK
			}
			rolled, e := chart.Roll(l, balances)
			if e != want || e == api.OK && len(rolled) != 200 || e != api.OK && len(rolled) != 0 {
				t.Errorf("Roll of 200 times %d: %d balances, error %d", amount, len(rolled), e)
			}
		}
	}
}

// P8.4: sums compared with those over all accounts that have another one on their path, in the order of the chart.
func TestRollIsSumUnder(t *testing.T) {
	r := rand.New(rand.NewSource(3))
	for _, l := range charts() {
		balances := randomBalances(r, l, 9)
		own, rolled := amounts(balances), roll(t, l, balances)
		var want []api.Balance
		for _, a := range l {
			sum := 0
			for _, code := range chart.Under(l, a.Code) {
				sum += own[code]
			}
			if sum != 0 {
				want = append(want, api.Balance{Account: a.Code, Amount: sum})
			}
		}
		if !slices.Equal(rolled, want) {
			t.Errorf("Roll(%v): %v, not %v", balances, rolled, want)
		}
	}
}

// P8.6: the sum of an account is its own balance and those of its children; those without a parent have the sum of all.
func TestSumsOfChildren(t *testing.T) {
	r := rand.New(rand.NewSource(4))
	for _, l := range charts() {
		balances := randomBalances(r, l, most/200)
		own, sums, total := amounts(balances), amounts(roll(t, l, balances)), 0
		for _, b := range balances {
			total += b.Amount
		}
		for _, a := range append(slices.Clone(l), api.Account{}) {
			sum := own[a.Code]
			for _, child := range chart.Children(l, a.Code) {
				sum += sums[child]
			}
			switch {
			case a.Code == 0 && sum != total:
				t.Errorf("Roll(%v): the accounts without a parent have the sum %d, not %d", balances, sum, total)
			case a.Code != 0 && sums[a.Code] != sum:
				t.Errorf("Roll(%v): %d on %d, not %d", balances, sums[a.Code], a.Code, sum)
			}
		}
	}
}

// sumOf returns the sum of two lists of balances, account by account, also of those with the sum 0.
func sumOf(a, b []api.Balance) []api.Balance {
	m := amounts(append(slices.Clone(a), b...))
	var l []api.Balance
	for code, amount := range m {
		l = append(l, api.Balance{Account: code, Amount: amount})
	}
	slices.SortFunc(l, func(x, y api.Balance) int { return x.Account - y.Account })
	return l
}

// P8.7: the sum of rolled balances is what the sum of the balances is rolled to.
func TestAddition(t *testing.T) {
	r := rand.New(rand.NewSource(5))
	for _, l := range charts() {
		for _, limit := range []int{1, 2, 1000, most / 400} {
			a, b := randomBalances(r, l, limit), randomBalances(r, l, limit)
			want := slices.DeleteFunc(sumOf(roll(t, l, a), roll(t, l, b)), func(x api.Balance) bool { return x.Amount == 0 })
			if rolled := roll(t, l, sumOf(a, b)); !slices.Equal(rolled, want) {
				t.Errorf("Roll(%v + %v): %v, not %v", a, b, rolled, want)
			}
		}
	}
}

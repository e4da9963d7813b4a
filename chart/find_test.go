package chart_test

import (
	"math"
	"slices"
	"testing"

	"tallystone/api"
	"tallystone/chart"
)

// unordered returns a list that is no chart: codes are in no order, two accounts have the same code, and codes and parents
// are out of range.
func unordered() []api.Account {
	return []api.Account{
		{Code: 30, Kind: 1, Basis: 1, Parent: 10},
		{Code: 10, Kind: 2, Basis: 0, Parent: 10},
		{Code: 30, Kind: 3, Basis: 2, Parent: 20},
		{Code: 0, Kind: 9, Basis: 9, Parent: -5},
		{Code: -5, Kind: -1, Basis: -1, Parent: 0},
		{Code: 10, Kind: 4, Basis: 3, Parent: 30},
		{Code: math.MaxInt, Kind: math.MinInt, Parent: math.MinInt},
		{Code: math.MinInt, Parent: 10},
		{Code: 5, Kind: 5, Parent: math.MaxInt},
	}
}

// P8.2: every account of a chart is found, with all its fields, and no other one.
func TestFind(t *testing.T) {
	for _, l := range [][]api.Account{sample(), withBases(sample()), example(), chain(200, true), chain(200, false)} {
		codes := map[int]api.Account{}
		for _, a := range l {
			codes[a.Code] = a
		}
		for code := -2; code <= 100001; code++ {
			want, has := codes[code]
			if a, ok := chart.Find(l, code); a != want || ok != has {
				t.Errorf("Find(%d): %v, %t, not %v, %t", code, a, ok, want, has)
			}
		}
		for _, code := range []int{math.MinInt, math.MaxInt, 1<<32 + 1000, 1<<32 + 10} {
			if a, ok := chart.Find(l, code); a != (api.Account{}) || ok {
				t.Errorf("Find(%d): %v, %t", code, a, ok)
			}
		}
	}
}

// P8.2: the first account of a list that is no chart is found, also by a code that no chart has.
func TestFindInAnyList(t *testing.T) {
	l := unordered()
	for _, x := range []struct{ code, at int }{
		{30, 0}, {10, 1}, {0, 3}, {-5, 4}, {math.MaxInt, 6}, {math.MinInt, 7}, {5, 8}, {20, -1}, {1, -1}, {-1, -1}, {math.MaxInt - 1, -1},
	} {
		var want api.Account
		if x.at >= 0 {
			want = l[x.at]
		}
		if a, ok := chart.Find(l, x.code); a != want || ok != (x.at >= 0) {
			t.Errorf("Find(%d): %v, %t, not %v", x.code, a, ok, want)
		}
	}
	for _, l := range [][]api.Account{nil, {}} {
		if a, ok := chart.Find(l, 0); a != (api.Account{}) || ok {
			t.Errorf("Find in nothing: %v, %t", a, ok)
		}
	}
	long := chain(1000, true)
	long = append(long, long...)
	long[1999].Kind = api.KindExpense
	if a, ok := chart.Find(long, 10000); a != long[999] || !ok {
		t.Errorf("Find in a long list: %v, %t", a, ok)
	}
	if a, ok := chart.Find(append(long, api.Account{Code: 7}), 7); a != (api.Account{Code: 7}) || !ok {
		t.Errorf("Find of the last one of a long list: %v, %t", a, ok)
	}
}

// P8.2: the accounts with a parent, in the order of the list, and those without one.
func TestChildren(t *testing.T) {
	for _, x := range []struct {
		l    []api.Account
		code int
		want []int
	}{
		{sample(), 1000, []int{1100, 1200}}, {sample(), 1100, []int{1110, 1120}}, {sample(), 4900, []int{4100, 4200}}, {sample(), 4100, []int{4000}},
		{sample(), 99999, []int{1}}, {sample(), 0, []int{1000, 3000, 4900, 5000, 99999}}, {sample(), 1110, nil}, {sample(), 3000, nil}, {sample(), 7, nil},
		{sample(), -1, nil}, {sample(), 100000, nil}, {sample(), math.MinInt, nil}, {sample(), math.MaxInt, nil}, {sample(), 1<<32 + 1000, nil},
		{withBases(sample()), 1000, []int{1100, 1200}}, {example(), 0, []int{1000, 4000}}, {example(), 1000, []int{1100}}, {nil, 0, nil}, {[]api.Account{}, 0, nil},
		{unordered(), 10, []int{30, 10, math.MinInt}}, {unordered(), 20, []int{30}}, {unordered(), 30, []int{10}}, {unordered(), -5, []int{0}},
		{unordered(), 0, []int{-5}}, {unordered(), math.MinInt, []int{math.MaxInt}}, {unordered(), math.MaxInt, []int{5}}, {unordered(), 5, nil},
		{append(sample(), sample()...), 1000, []int{1100, 1200, 1100, 1200}}, {chain(300, true), 3000, []int{2990}}, {chain(300, false), 10, []int{20}},
	} {
		if codes := chart.Children(x.l, x.code); !slices.Equal(codes, x.want) {
			t.Errorf("Children(%d) of %d accounts: %d, not %d", x.code, len(x.l), codes, x.want)
		}
	}
}

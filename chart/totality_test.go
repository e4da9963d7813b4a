package chart_test

import (
	"math/rand"
	"slices"
	"testing"

	"tallystone/api"
	"tallystone/chart"
)

// wantTotal calls all functions, and tests that they change no argument, and return nothing beside an error or false.
func wantTotal(t *testing.T, l []api.Account, code int, balances []api.Balance) {
	t.Helper()
	accounts, others := slices.Clone(l), slices.Clone(balances)
	isChart := chart.Valid(l, false) || chart.Valid(l, true)
	if a, ok := chart.Find(l, code); !ok && a != (api.Account{}) || ok && a.Code != code {
		t.Errorf("Find(%v, %d): %v, %t", l, code, a, ok)
	}
	chart.Children(l, code)
	if !isChart && len(chart.Under(l, code))+len(chart.Path(l, code)) > 0 {
		t.Errorf("Under and Path of %v", l)
	}
	if rolled, e := chart.Roll(l, balances); e != api.OK && len(rolled) > 0 || !isChart && e != api.ErrArg || e != api.OK && e != api.ErrArg && e != api.ErrRange {
		t.Errorf("Roll(%v, %v): %v, error %d", l, balances, rolled, e)
	}
	if !slices.Equal(l, accounts) || !slices.Equal(balances, others) {
		t.Errorf("%v and %v were changed to %v and %v", accounts, others, l, balances)
	}
}

// P1: every function answers whatever its arguments are, and leaves them as they are.
func TestTotality(t *testing.T) {
	for _, a := range extremes() {
		for _, b := range extremes() {
			wantTotal(t, []api.Account{{Code: a, Kind: 1, Parent: b}}, b, balancesOf(a, b))
			wantTotal(t, []api.Account{{Code: a, Kind: 1, Parent: b}, {Code: b, Kind: 1, Parent: a}}, a, balancesOf(a, a, b, b))
			wantTotal(t, []api.Account{{Code: 1000, Kind: a, Basis: b}}, 1000, balancesOf(1000, a))
			wantTotal(t, sample(), a, balancesOf(1000, a, 1100, b))
			wantTotal(t, withBases(sample()), b, balancesOf(a, 1, b, 1))
		}
	}
	r := rand.New(rand.NewSource(6))
	field := func() int {
		l := extremes()
		if r.Intn(2) == 0 {
			return r.Intn(12)
		}
		return l[r.Intn(len(l))]
	}
	for range 3000 {
		l, balances := make([]api.Account, r.Intn(12)), make([]api.Balance, r.Intn(12))
		for i := range l {
			l[i] = api.Account{Code: field(), Kind: field(), Basis: field(), Parent: field()}
		}
		for i := range balances {
			balances[i] = api.Balance{Account: field(), Amount: field()}
		}
		wantTotal(t, l, field(), balances)
	}
}

// P1, P8.1: long lists are answered as soon as short ones, also such that never come to an end.
func TestLongLists(t *testing.T) {
	long := chain(200000, true)
	long[199999].Parent = 10
	wantTotal(t, long, 10, balancesOf(10, 1))
	wantTotal(t, append(sample(), long...), 1000, balancesOf(1000, 1))
	balances := make([]api.Balance, 200000)
	for i := range balances {
		balances[i] = api.Balance{Account: i + 1, Amount: 1}
	}
	wantTotal(t, sample(), 1000, balances)
	wantTotal(t, long, 1000, balances)
}

// Results are new memory: writing to one changes no argument and no other result.
func TestNewMemory(t *testing.T) {
	l, balances := sample(), balancesOf(1000, 1, 1100, 2)
	first := roll(t, l, balances)
	want := slices.Clone(first)
	for _, codes := range [][]int{chart.Children(l, 1000), chart.Under(l, 1000), chart.Path(l, 1110)} {
		clear(codes)
		clear(codes[:cap(codes)])
	}
	clear(first)
	if !slices.Equal(l, sample()) || !slices.Equal(balances, balancesOf(1000, 1, 1100, 2)) {
		t.Errorf("the arguments are now %v and %v", l, balances)
	}
	if rolled := roll(t, l, balances); !slices.Equal(rolled, want) {
		t.Errorf("Roll: %v, not %v", rolled, want)
	}
	if codes := chart.Under(l, 1000); !slices.Equal(codes, []int{1000, 1100, 1110, 1120, 1200}) {
		t.Errorf("Under: %d", codes)
	}
}

package mapping_test

import (
	"math"
	"math/rand"
	"slices"
	"testing"

	"tallystone/api"
	"tallystone/mapping"
)

// wantTotal calls all functions, and tests that they change no argument, and return nothing beside an error.
func wantTotal(t *testing.T, e api.Entity, c []api.Account, code, day int, balances []api.Balance) {
	t.Helper()
	entity, accounts, others := clone(e), slices.Clone(c), slices.Clone(balances)
	mapping.Valid(e, c)
	mapping.Dates(e)
	if to, err := mapping.At(e, code, day); err != api.OK && (to != 0 || err != api.ErrRange && err != api.ErrNone && err != api.ErrMapping) {
		t.Errorf("At(%v, %d, %d): %d, error %d", e, code, day, to, err)
	}
	moved, err := mapping.Move(e, balances, day)
	if err != api.OK && (len(moved) > 0 || err != api.ErrArg && err != api.ErrRange && err != api.ErrNone && err != api.ErrMapping) {
		t.Errorf("Move(%v, %v, %d): %v, error %d", e, balances, day, moved, err)
	}
	if !equal(e, entity) || !slices.Equal(c, accounts) || !slices.Equal(balances, others) {
		t.Errorf("%v, %v and %v were changed to %v, %v and %v", entity, accounts, others, e, c, balances)
	}
}

// P1: every function answers whatever its arguments are, and leaves them as they are.
func TestTotality(t *testing.T) {
	for _, a := range extremes() {
		for _, b := range extremes() {
			one := api.Entity{Chart: []api.Account{{Code: a, Kind: 1}}, Links: []api.Link{{From: a, To: b, Since: b}, {From: b, To: a, Since: a}}}
			wantTotal(t, one, []api.Account{{Code: b, Kind: 1, Basis: 1}}, a, b, balancesOf(a, b))
			changed := sample()
			changed.Chart[0].Code, changed.Links[0].From, changed.Links[1].Since, changed.Links[3].To = a, a, b, b
			wantTotal(t, changed, group(), a, b, balancesOf(a, 1, b, 1))
			wantTotal(t, sample(), group(), b, a, balancesOf(100, a, 110, b))
		}
	}
	r := rand.New(rand.NewSource(11))
	for range 3000 {
		e, c := randomEntity(r), randomEntity(r).Chart
		code, day := extremes()[r.Intn(30)], extremes()[r.Intn(30)]
		wantTotal(t, e, c, code, day, randomBalances(r, e, most))
		wantTotal(t, e, group(), code, 50, balancesOf(code, day))
	}
}

// P1, P9.1, P9.4: long lists are answered as soon as short ones, though no mapping with them is valid.
func TestLongLists(t *testing.T) {
	const length = 100000
	var e api.Entity
	var balances, want []api.Balance
	for i := range length {
		e.Chart = append(e.Chart, api.Account{Code: i, Kind: api.KindAsset})
		e.Links = append(e.Links, api.Link{From: i, To: -i, Since: i % 7}, api.Link{From: i, To: i, Since: i%7 - 1})
		balances = append(balances, api.Balance{Account: i, Amount: i + 1})
		want = append(want, api.Balance{Account: i - length + 1, Amount: length - i})
	}
	if mapping.Valid(e, group()) || mapping.Valid(sample(), e.Chart) {
		t.Error("long lists are valid")
	}
	wantAt(t, e, length-1, 50, 1-length, api.OK)
	if moved, err := mapping.Move(e, balances, 50); err != api.OK || !slices.Equal(moved, want) {
		t.Errorf("Move: %d balances, error %d", len(moved), err)
	}
	for i := range e.Links {
		e.Links[i].To = 1000
	}
	wantMove(t, e, balances, 50, balancesOf(1000, length*(length+1)/2), api.OK)
	for i := range balances {
		balances[i].Amount = most
	}
	if moved, err := mapping.Move(e, balances, 50); err != api.ErrRange || len(moved) != 0 {
		t.Errorf("Move: %d balances, error %d", len(moved), err)
	}
	balances[length-1].Account = math.MinInt
	if moved, err := mapping.Move(e, balances, 50); err != api.ErrArg || len(moved) != 0 {
		t.Errorf("Move: %d balances, error %d", len(moved), err)
	}
}

// Results are new memory: writing to one changes no argument and no other result.
func TestNewMemory(t *testing.T) {
	e, balances := sample(), balancesOf(100, 1, 110, 2)
	moved, err := mapping.Move(e, balances, 60)
	if err != api.OK {
		t.Fatalf("error %d", err)
	}
	dates := mapping.Dates(e)
	clear(moved[:cap(moved)])
	clear(dates[:cap(dates)])
	if !equal(e, sample()) || !slices.Equal(balances, balancesOf(100, 1, 110, 2)) {
		t.Errorf("the arguments are now %v and %v", e, balances)
	}
	wantMove(t, e, balances, 60, balancesOf(1000, 2, 1100, 1), api.OK)
	if dates = mapping.Dates(e); len(dates) != 8 || dates[1] != -7 {
		t.Errorf("Dates: %d", dates)
	}
}

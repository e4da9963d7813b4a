package group_test

import (
	"math/rand"
	"strconv"
	"strings"
	"testing"

	"tallystone/api"
	"tallystone/group"
)

// wantTotal calls all functions, and tests that they change no argument, and return nothing where there is nothing.
func wantTotal(t *testing.T, g api.Group, name string, code int) {
	t.Helper()
	before := clone(g)
	if valid := group.Valid(g); valid != isValid(g) {
		t.Errorf("Valid(%v) is %t", g, valid)
	}
	i, ok := find(g, name)
	wantFind(t, g, name, i, ok)
	currencies := group.Currencies(g)
	for i, c := range currencies {
		if i > 0 && c <= currencies[i-1] {
			t.Errorf("the currencies of %v are %q", g, currencies)
		}
	}
	if a, ok := group.Account(g, code); !ok && a != (api.Account{}) || ok && a.Code != code {
		t.Errorf("Account(%v, %d): %v, %t", g, code, a, ok)
	}
	if name, ok := group.Role(g, code); ok == (name == "") {
		t.Errorf("Role(%v, %d): %q, %t", g, code, name, ok)
	}
	if group.Result(g, code) && group.Equity(g, code) {
		t.Errorf("the account %d of %v is of two kinds", code, g)
	}
	if !equal(g, before) {
		t.Errorf("%v was changed to %v", before, g)
	}
}

// P1, P10.1: every function answers whatever its arguments are, and leaves them as they are.
func TestTotality(t *testing.T) {
	for _, n := range extremes() {
		wantTotal(t, api.Group{}, "", n)
		for _, g := range []api.Group{group.Sample(), small()} {
			wantTotal(t, g, "north", n)
			for _, change := range []func(g *api.Group){
				func(g *api.Group) { g.Chart[3].Code = n },
				func(g *api.Group) { g.Chart[3].Kind = n },
				func(g *api.Group) { g.Chart[3].Basis = n },
				func(g *api.Group) { g.Chart[3].Parent = n },
				func(g *api.Group) { g.Entities[0].Chart = []api.Account{{Code: n, Kind: 1}, {Code: 9, Kind: n}} },
				func(g *api.Group) { g.Entities[0].Links = []api.Link{{From: n, To: n, Since: n}} },
				func(g *api.Group) { g.Entities[0].Links = []api.Link{{From: 10, To: 1010, Since: n}} },
			} {
				changed := clone(g)
				change(&changed)
				wantTotal(t, changed, "p", n)
			}
		}
	}
	r := rand.New(rand.NewSource(8))
	for range 3000 {
		g := anyGroup(r)
		wantTotal(t, g, []string{"", "a", "\xff", "A-1"}[r.Intn(4)], r.Intn(8))
		g.Chart, g.Roles = small().Chart, small().Roles
		wantTotal(t, g, "a", r.Intn(20))
	}
}

// anyGroup returns a group with any contents.
func anyGroup(r *rand.Rand) api.Group {
	number := func() int {
		if l := extremes(); r.Intn(6) == 0 {
			return l[r.Intn(len(l))]
		}
		return r.Intn(8)
	}
	text := func() string { return []string{"", "a", "EUR", "USD", "A-1", "\xff", "É"}[r.Intn(7)] }
	g := api.Group{Currency: text(), Calendar: api.Calendar{Year: 1900 + number(), Month: number(), Periods: number()}}
	for range r.Intn(8) {
		g.Chart = append(g.Chart, api.Account{Code: number(), Kind: number(), Basis: number(), Parent: number()})
	}
	for _, f := range fields(&g.Roles) {
		*f.code = number()
	}
	for range r.Intn(4) {
		e := api.Entity{Name: text(), Currency: text(), Joint: r.Intn(3) == 0}
		for range r.Intn(3) {
			e.Chart = append(e.Chart, api.Account{Code: number(), Kind: number()})
			e.Links = append(e.Links, api.Link{From: number(), To: number(), Since: number()})
		}
		g.Entities = append(g.Entities, e)
	}
	return g
}

// P1, P10.1: long lists and texts are answered as soon as short ones, though no group with them is valid.
func TestLongLists(t *testing.T) {
	const length = 100000
	long := strings.Repeat("n", length)
	g := group.Sample()
	g.Entities, g.Chart = nil, nil
	for i := range length {
		g.Entities = append(g.Entities, api.Entity{Name: "n" + strconv.Itoa(i), Currency: strconv.Itoa(i % 1000), Links: make([]api.Link, 2), Chart: make([]api.Account, 2)})
		g.Chart = append(g.Chart, api.Account{Code: i + 1, Kind: 1 + i%5, Basis: 1})
	}
	g.Entities[length-1].Name = long
	if group.Valid(g) {
		t.Error("a group with long lists is valid")
	}
	wantFind(t, g, long, length-1, true)
	wantFind(t, g, "n99998", length-2, true)
	wantAccount(t, g, length, g.Chart[length-1])
	if currencies := group.Currencies(g); len(currencies) != 1001 || currencies[1000] != "EUR" || currencies[1] != "1" || currencies[2] != "10" {
		t.Errorf("the currencies are %q", currencies)
	}
	for _, change := range []func(g *api.Group){
		func(g *api.Group) { g.Chart = make([]api.Account, length) },
		func(g *api.Group) { g.Entities = make([]api.Entity, length) },
		func(g *api.Group) { g.Entities[3].Chart = make([]api.Account, length) },
		func(g *api.Group) { g.Entities[3].Links = make([]api.Link, length) },
		func(g *api.Group) { g.Entities[3].Name = long },
		func(g *api.Group) { g.Currency = long },
	} {
		wantChanged(t, "a long list or text", group.Sample(), false, change)
	}
}

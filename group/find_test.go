package group_test

import (
	"math"
	"math/rand"
	"slices"
	"testing"

	"tallystone/api"
	"tallystone/group"
)

func wantFind(t *testing.T, g api.Group, name string, want int, ok bool) {
	t.Helper()
	if i, found := group.Find(g, name); i != want || found != ok {
		t.Errorf("Find %q: %d, %t, not %d, %t", name, i, found, want, ok)
	}
}

func wantRole(t *testing.T, g api.Group, code int, want string, ok bool) {
	t.Helper()
	if name, found := group.Role(g, code); name != want || found != ok {
		t.Errorf("Role %d: %q, %t, not %q, %t", code, name, found, want, ok)
	}
}

// wantAccount tests what the functions of an account say of one that has a kind, or of none if the kind is 0.
func wantAccount(t *testing.T, g api.Group, code int, want api.Account) {
	t.Helper()
	if a, found := group.Account(g, code); a != want || found != (want != api.Account{}) {
		t.Errorf("Account %d: %v, %t, not %v", code, a, found, want)
	}
	if ok := group.Result(g, code); ok != (want.Kind == 4 || want.Kind == 5) {
		t.Errorf("Result %d is %t", code, ok)
	}
	if ok := group.Equity(g, code); ok != (want.Kind == 3) {
		t.Errorf("Equity %d is %t", code, ok)
	}
}

func wantCurrencies(t *testing.T, g api.Group, want ...string) {
	t.Helper()
	if l := group.Currencies(g); !slices.Equal(l, want) {
		t.Errorf("the currencies are %q, not %q", l, want)
	}
}

// P10.1: entities are found by their whole names, letter by letter; of several with a name, the first one is.
func TestFind(t *testing.T) {
	g := group.Sample()
	for i, name := range []string{"parent", "north", "west", "joint"} {
		wantFind(t, g, name, i, true)
	}
	for _, name := range []string{"", "West", "WEST", "wes", "est", "west ", " west", "west\x00", "EUR", "north west", "\xff"} {
		wantFind(t, g, name, 0, false)
	}
	g.Entities = []api.Entity{{Name: "a"}, {Name: ""}, {Name: "b"}, {Name: "a"}, {Name: "\xff"}, {Name: "b"}, {Name: ""}}
	wantFind(t, g, "a", 0, true)
	wantFind(t, g, "", 1, true)
	wantFind(t, g, "b", 2, true)
	wantFind(t, g, "\xff", 4, true)
	wantFind(t, g, "\xfe", 0, false)
	wantFind(t, g, "\ufffd", 0, false)
	wantFind(t, api.Group{}, "", 0, false)
}

// P10.1: all currencies occur once, in the order of strings, that of the group and texts that are none included.
func TestCurrencies(t *testing.T) {
	wantCurrencies(t, group.Sample(), "EUR", "USD")
	wantCurrencies(t, small(), "AZM", "ZAM")
	wantCurrencies(t, api.Group{}, "")
	wantCurrencies(t, api.Group{Currency: "EUR"}, "EUR")
	wantCurrencies(t, api.Group{Currency: "USD", Entities: []api.Entity{{Currency: "USD"}, {Currency: "USD"}}}, "USD")
	wantCurrencies(t, api.Group{Currency: "EUR", Entities: []api.Entity{{Currency: "USD"}, {Currency: "EUR"}, {Currency: "CHF"}}}, "CHF", "EUR", "USD")
	wantCurrencies(t, api.Group{Currency: "Z", Entities: []api.Entity{{Currency: "a"}, {}, {Currency: "Z\x00"}, {Currency: "\xff"}, {Currency: "EUROS"}, {Currency: "é"}}}, "", "EUROS", "Z", "Z\x00", "a", "é", "\xff")
	currencies := group.Currencies(group.Sample())
	clear(currencies[:cap(currencies)])
	wantCurrencies(t, group.Sample(), "EUR", "USD")
}

// P10.1: the accounts of a chart are found, each with all of its fields; those of entities are not among them.
func TestAccount(t *testing.T) {
	for _, g := range []api.Group{group.Sample(), small()} {
		for _, a := range g.Chart {
			wantAccount(t, g, a.Code, a)
		}
	}
	for _, code := range append(extremes(), 10, 140, 1001, 4999, 100000) {
		if code != 1000 && code != 1500 && code != 3300 && code != 5700 {
			wantAccount(t, group.Sample(), code, api.Account{})
		}
		wantAccount(t, api.Group{Entities: group.Sample().Entities, Roles: group.Sample().Roles}, code, api.Account{})
	}
}

// P10.1: in a chart that is not valid, the first account with a code counts, also with codes and kinds that are none.
func TestAccountOfAnyChart(t *testing.T) {
	var g api.Group
	for i, code := range []int{7, 3, 7, 0, -1, math.MaxInt, 3, math.MinInt, 0, 9} {
		g.Chart = append(g.Chart, api.Account{Code: code, Kind: i, Basis: i, Parent: i})
	}
	for code, want := range map[int]int{7: 0, 3: 1, 0: 3, -1: 4, math.MaxInt: 5, math.MinInt: 7, 9: 9} {
		wantAccount(t, g, code, api.Account{Code: code, Kind: want, Basis: want, Parent: want})
	}
	for _, kind := range extremes() {
		one := api.Account{Code: 7, Kind: kind}
		wantAccount(t, api.Group{Chart: []api.Account{one, {Code: 7, Kind: 3}, {Code: 7, Kind: 4}}}, 7, one)
	}
}

// P10.1, P10.3: roles are found by their accounts, and no other account has one.
func TestRole(t *testing.T) {
	g := group.Sample()
	roles := map[int]string{}
	for _, r := range fields(&g.Roles) {
		roles[*r.code] = r.name
	}
	if len(roles) != 15 || roles[4700] != "dividends" || roles[4600] != "associateProfit" {
		t.Fatalf("the roles are %v", roles)
	}
	for _, a := range append(g.Chart, g.Entities[0].Chart...) {
		name, ok := roles[a.Code]
		wantRole(t, g, a.Code, name, ok)
	}
	for _, code := range extremes() {
		name, ok := roles[code]
		wantRole(t, g, code, name, ok)
	}
}

// P10.1: of several roles with an account, the first one in the order of the table counts, whatever the chart is.
func TestRolesWithOneAccount(t *testing.T) {
	wantRole(t, api.Group{}, 0, "investment", true)
	wantRole(t, api.Group{}, 1, "", false)
	for _, code := range extremes() {
		var g api.Group
		roles := fields(&g.Roles)
		for _, r := range roles {
			*r.code = code + 1
		}
		for i := len(roles) - 1; i > 0; i-- {
			*roles[i].code = code
			wantRole(t, g, code, roles[i].name, true)
			wantRole(t, g, code+1, "investment", true)
			wantRole(t, g, code-1, "", false)
		}
	}
	r := rand.New(rand.NewSource(5))
	for range 2000 {
		var g api.Group
		first := map[int]string{}
		for _, f := range fields(&g.Roles) {
			*f.code = r.Intn(8)
			if _, ok := first[*f.code]; !ok {
				first[*f.code] = f.name
			}
		}
		for code := range 10 {
			name, ok := first[code]
			wantRole(t, g, code, name, ok)
		}
	}
}

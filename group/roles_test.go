package group_test

import (
	"math/rand"
	"slices"
	"testing"

	"tallystone/api"
	"tallystone/group"
)

// P10.1: the chart of the group is valid, and each kind of accounts has bases of its own.
func TestBases(t *testing.T) {
	for kind := 0; kind <= 6; kind++ {
		for basis := -1; basis <= 5; basis++ {
			want := kind == 1 && (basis == 1 || basis == 3) || kind == 2 && (basis == 1 || basis == 3) || kind == 3 && basis == 3 || kind == 4 && basis == 2 || kind == 5 && basis == 2
			for _, g := range []api.Group{group.Sample(), small()} {
				for _, code := range []int{99999, 16, 999} {
					wantChanged(t, "a further account", g, want, func(g *api.Group) {
						i, _ := slices.BinarySearchFunc(g.Chart, code, func(a api.Account, code int) int { return a.Code - code })
						g.Chart = slices.Insert(g.Chart, i, api.Account{Code: code, Kind: kind, Basis: basis})
					})
				}
			}
		}
	}
	for i, a := range group.Sample().Chart {
		for basis := range 5 {
			changed := group.Sample()
			changed.Chart[i].Basis = basis
			wantValid(t, "another basis", changed, basis == a.Basis || isFree(a.Code) && a.Kind <= 2 && (basis == 1 || basis == 3))
		}
	}
}

// isFree reports whether an account of the sample has no role.
func isFree(code int) bool {
	g := group.Sample()
	return !slices.ContainsFunc(fields(&g.Roles), func(f field) bool { return *f.code == code })
}

// P10.1: the chart of the group is valid as that of a group.
func TestChart(t *testing.T) {
	for name, change := range map[string]func(g *api.Group){
		"another order":           func(g *api.Group) { slices.Reverse(g.Chart) },
		"an account twice":        func(g *api.Group) { g.Chart = append(g.Chart, g.Chart[25]) },
		"a code beyond the limit": func(g *api.Group) { g.Chart = append(g.Chart, api.Account{Code: 100000, Kind: 1, Basis: 1}) },
		"a code below the limit":  func(g *api.Group) { g.Chart = slices.Insert(g.Chart, 0, api.Account{Kind: 1, Basis: 1}) },
		"a missing parent":        func(g *api.Group) { g.Chart[3].Parent = 999 },
		"a parent of other kind":  func(g *api.Group) { g.Chart[3].Parent = 2000 },
		"its own parent":          func(g *api.Group) { g.Chart[3].Parent = 1200 },
		"parents in a circle":     func(g *api.Group) { g.Chart[0].Parent = 1010 },
		"no basis":                func(g *api.Group) { g.Chart[1].Basis = 0 },
		"an account too many":     func(g *api.Group) { *g = withAccounts(small(), 201) },
		"very many accounts":      func(g *api.Group) { *g = withAccounts(small(), 100000) },
	} {
		wantChanged(t, name, group.Sample(), false, change)
	}
	wantValid(t, "as many accounts as are allowed", withAccounts(small(), 200), true)
	wantChanged(t, "another parent", group.Sample(), true, func(g *api.Group) { g.Chart[3].Parent = 1010 })
}

// withAccounts returns a group with so many accounts in its chart.
func withAccounts(g api.Group, length int) api.Group {
	for i := len(g.Chart); i < length; i++ {
		g.Chart = append(g.Chart, api.Account{Code: i + 1, Kind: api.KindAsset, Basis: api.BasisClosing})
	}
	return g
}

// P10.1, P10.3: each role is an account of the chart with the kind and the basis of the table, and none has that of another.
func TestRolesOfValidGroups(t *testing.T) {
	for _, g := range []api.Group{group.Sample(), small()} {
		names := fields(&g.Roles)
		for i, f := range names {
			for _, code := range extremes() {
				// The account 1000 of the sample has no role and might be the inventory.
				if code != 1000 {
					wantChanged(t, f.name+" elsewhere", g, code == *f.code, func(g *api.Group) { *fields(&g.Roles)[i].code = code })
				}
			}
			for j, other := range names {
				wantChanged(t, f.name+" for "+other.name, g, i == j, func(g *api.Group) { *fields(&g.Roles)[i].code = *fields(&g.Roles)[j].code })
				alike := f.kind == other.kind && f.basis == other.basis
				wantChanged(t, f.name+" with "+other.name, noLinks(g), alike, func(g *api.Group) {
					a, b := fields(&g.Roles)[i].code, fields(&g.Roles)[j].code
					*a, *b = *b, *a
				})
			}
		}
	}
}

// P10.1: a role may be any account that has no role, if it has the kind and the basis of the table.
func TestRolesOnOtherAccounts(t *testing.T) {
	g := noLinks(group.Sample())
	g.Chart = append(g.Chart, api.Account{Code: 9000, Kind: api.KindLiability, Basis: api.BasisHistorical})
	for i, f := range fields(&g.Roles) {
		for _, a := range g.Chart {
			want := a.Code == *f.code || isFree(a.Code) && a.Kind == f.kind && a.Basis == f.basis
			wantChanged(t, f.name+" on another account", g, want, func(g *api.Group) { *fields(&g.Roles)[i].code = a.Code })
		}
	}
	// The account that was a role is one as any other: links may lead to it, and to the new account only if it is one of four.
	moved := group.Sample()
	moved.Roles.Goodwill = 1300
	wantValid(t, "goodwill on an account with links", moved, false)
	for i := range moved.Entities {
		moved.Entities[i].Links[3].To = 1600
	}
	wantValid(t, "goodwill exchanged with equipment", moved, true)
	moved = group.Sample()
	moved.Roles.Retained = 3000
	wantValid(t, "retained exchanged with capital", moved, true)
}

// noLinks returns a group without the links of its entities.
func noLinks(g api.Group) api.Group {
	g = clone(g)
	for i := range g.Entities {
		g.Entities[i].Links = nil
	}
	return g
}

// P10.3: in valid groups, all roles are found by their accounts, which are accounts of the chart with the kinds of the table.
func TestRolesAreFound(t *testing.T) {
	r := rand.New(rand.NewSource(2))
	groups := []api.Group{group.Sample(), small()}
	for range 500 {
		groups = append(groups, randomGroup(r))
	}
	for _, g := range groups {
		wantValid(t, "a group of chance", g, true)
		roles := 0
		for _, a := range g.Chart {
			if _, ok := group.Role(g, a.Code); ok {
				roles++
			}
		}
		if roles != 15 {
			t.Errorf("%d accounts have roles", roles)
		}
		for _, f := range fields(&g.Roles) {
			wantRole(t, g, *f.code, f.name, true)
			a, ok := group.Account(g, *f.code)
			if !ok || a.Code != *f.code || a.Kind != f.kind || a.Basis != f.basis {
				t.Errorf("the account of %s is %v, %t", f.name, a, ok)
			}
			if group.Result(g, *f.code) != (f.kind >= 4) || group.Equity(g, *f.code) != (f.kind == 3) {
				t.Errorf("%s is of another kind", f.name)
			}
		}
	}
}

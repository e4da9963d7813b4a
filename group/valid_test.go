package group_test

import (
	"math/rand"
	"slices"
	"strings"
	"testing"

	"tallystone/api"
	"tallystone/date"
	"tallystone/group"
)

// wantValid tests whether a group is valid, for Valid and for the other implementation.
func wantValid(t *testing.T, name string, g api.Group, want bool) {
	t.Helper()
	if group.Valid(g) != want {
		t.Errorf("%q: Valid is not %t", name, want)
	}
	if isValid(g) != want {
		t.Errorf("%q: the test says that Valid is not %t", name, want)
	}
}

// wantChanged tests whether a group that was changed is valid.
func wantChanged(t *testing.T, name string, g api.Group, want bool, change func(g *api.Group)) {
	t.Helper()
	changed := clone(g)
	change(&changed)
	wantValid(t, name, changed, want)
}

// P10.1: ordinary groups, the smallest one, and groups without one of their parts.
func TestValid(t *testing.T) {
	wantValid(t, "the sample", group.Sample(), true)
	wantValid(t, "the smallest group", small(), true)
	wantValid(t, "nothing", api.Group{}, false)
	for _, g := range []api.Group{group.Sample(), small()} {
		wantChanged(t, "no currency", g, false, func(g *api.Group) { g.Currency = "" })
		wantChanged(t, "no calendar", g, false, func(g *api.Group) { g.Calendar = api.Calendar{} })
		wantChanged(t, "no chart", g, false, func(g *api.Group) { g.Chart = nil })
		wantChanged(t, "no roles", g, false, func(g *api.Group) { g.Roles = api.Roles{} })
		wantChanged(t, "no entities", g, false, func(g *api.Group) { g.Entities = nil })
		wantChanged(t, "an empty list of entities", g, false, func(g *api.Group) { g.Entities = g.Entities[:0] })
		wantChanged(t, "empty lists in an entity", g, true, func(g *api.Group) {
			g.Entities[0].Chart, g.Entities[0].Links = []api.Account{}, []api.Link{}
		})
		wantChanged(t, "neither accounts nor links", g, true, func(g *api.Group) {
			g.Entities[0].Chart, g.Entities[0].Links = nil, nil
		})
		wantChanged(t, "accounts without links", g, true, func(g *api.Group) { g.Entities[0].Links = nil })
	}
	wantChanged(t, "links without accounts", group.Sample(), false, func(g *api.Group) { g.Entities[3].Chart = nil })
}

// P10.1: currencies are three capital letters, that of the group and that of each entity.
func TestValidCurrency(t *testing.T) {
	valid := []string{"EUR", "AAA", "ZZZ", "AZM", "EUZ", "ZUR", "EAR"}
	invalid := []string{"", "E", "EU", "EURO", "eur", "Eur", "eUR", "EuR", "EUr", "EU ", " EU", "E R", "E-R", "EU1", "1EU", "0UR", "E\x00R", "@UR", "EU@", "[UR", "E[R", "EU[", "`UR", "EU{", "É", "ÉR", "ÉUR", "EUÉ", "Ω\u00c4", "\xff\xff\xff", "EU\xc5", "\u20ac", "EUREUR", strings.Repeat("A", 100000)}
	for i, s := range append(slices.Clone(valid), invalid...) {
		want := i < len(valid)
		wantChanged(t, "the group with "+s, group.Sample(), want, func(g *api.Group) { g.Currency = s })
		for j := range 4 {
			wantChanged(t, "an entity with "+s, group.Sample(), want, func(g *api.Group) { g.Entities[j].Currency = s })
		}
	}
	for c := range 256 {
		for i := range 3 {
			s := []byte("EUR")
			s[i] = byte(c)
			want := 'A' <= c && c <= 'Z'
			wantChanged(t, "the group with "+string(s), group.Sample(), want, func(g *api.Group) { g.Currency = string(s) })
			wantChanged(t, "an entity with "+string(s), group.Sample(), want, func(g *api.Group) { g.Entities[3].Currency = string(s) })
		}
	}
}

// P10.1: names are a letter and up to 15 letters, digits and hyphens.
func TestValidName(t *testing.T) {
	valid := []string{"a", "z", "A", "Z", "n1", "n0", "n9", "n-", "n--", "n-1-", "N-ORTH", "north-west-2", "Abcdefghij-12345", "abcdefghijklmnop", "z---------------", "parent2"}
	invalid := []string{"", "-", "1", "-n", "1n", "9north", "north west", " north", "north ", "north_west", "north.", "n\x00", "\x00n", "nörth", "ö", "nΩ", "n\xff", "\xff", "@n", "n@", "n[", "n`", "{n", "n{", "n/", "n:", "n+", "n,", "abcdefghijklmnopq", "abcdefghijklmn\u00f6", strings.Repeat("n", 100000)}
	for i, s := range append(slices.Clone(valid), invalid...) {
		for j := range 4 {
			wantChanged(t, "the name "+s, group.Sample(), i < len(valid), func(g *api.Group) { g.Entities[j].Name = s })
		}
	}
	for c := range 256 {
		letter := 'A' <= c && c <= 'Z' || 'a' <= c && c <= 'z'
		rest := letter || '0' <= c && c <= '9' || c == '-'
		for i, want := range []bool{letter, rest, rest} {
			s := []byte("abc")
			s[i] = byte(c)
			wantChanged(t, "the name "+string(s), group.Sample(), want, func(g *api.Group) { g.Entities[1].Name = string(s) })
		}
	}
	for length := range 40 {
		name := "n" + strings.Repeat("-", length)
		wantChanged(t, "the name "+name, group.Sample(), length < 16, func(g *api.Group) { g.Entities[2].Name = name })
	}
}

// P10.1: no two entities have one name, wherever they stand; names that differ in capitals are different.
func TestNamesAreDifferent(t *testing.T) {
	for i := range 4 {
		for j := range 4 {
			wantChanged(t, "the name of another entity", group.Sample(), i == j, func(g *api.Group) { g.Entities[i].Name = g.Entities[j].Name })
			wantChanged(t, "another entity", group.Sample(), i == j, func(g *api.Group) { g.Entities[i] = g.Entities[j]; g.Entities[i].Joint = false })
			wantChanged(t, "the name in capitals", group.Sample(), true, func(g *api.Group) { g.Entities[i].Name = strings.ToUpper(g.Entities[j].Name) })
		}
	}
}

// P10.1: a group has from 1 to 12 entities, and the first one is not Joint; each other one may be.
func TestEntities(t *testing.T) {
	r := rand.New(rand.NewSource(1))
	for length := range 20 {
		g := named(r, length)
		wantValid(t, "some entities", g, 1 <= length && length <= 12)
		for i := range g.Entities {
			wantChanged(t, "a joint entity", g, 0 < i && length <= 12, func(g *api.Group) { g.Entities[i].Joint = true })
			wantChanged(t, "all joint but one", g, i == 0 && length <= 12, func(g *api.Group) {
				for j := range g.Entities {
					g.Entities[j].Joint = i != j
				}
			})
		}
	}
	wantChanged(t, "very many entities", group.Sample(), false, func(g *api.Group) { g.Entities = make([]api.Entity, 100000) })
}

// P10.1: each entity has a chart and links that are valid for the chart of the group.
func TestMappings(t *testing.T) {
	for i := range 4 {
		for name, change := range map[string]func(e *api.Entity){
			"a basis":                 func(e *api.Entity) { e.Chart[2].Basis = api.BasisClosing },
			"another order":           func(e *api.Entity) { slices.Reverse(e.Chart) },
			"a code beyond the limit": func(e *api.Entity) { e.Chart[13].Code, e.Links[13].From = 100000, 100000 },
			"no kind":                 func(e *api.Entity) { e.Chart[13].Kind = 0 },
			"another kind":            func(e *api.Entity) { e.Chart[13].Kind = api.KindIncome },
			"a missing parent":        func(e *api.Entity) { e.Chart[13].Parent = 5000 },
			"an unknown account":      func(e *api.Entity) { e.Links[13].From = 150 },
			"an unknown end":          func(e *api.Entity) { e.Links[13].To = 5050 },
			"an end of another kind":  func(e *api.Entity) { e.Links[13].To = 4000 },
			"no date":                 func(e *api.Entity) { e.Links[13].Since = date.Min - 1 },
			"a link twice":            func(e *api.Entity) { e.Links = append(e.Links, e.Links[0]) },
			"two links of one day":    func(e *api.Entity) { e.Links = append(e.Links, api.Link{From: 10, To: 1100, Since: date.Min}) },
			"the chart of the group":  func(e *api.Entity) { e.Chart = group.Sample().Chart },
			"an account too many":     func(e *api.Entity) { e.Chart = assets(201, 0); e.Links = nil },
			"a link too many":         func(e *api.Entity) { e.Links = links(401) },
		} {
			wantChanged(t, name, group.Sample(), false, func(g *api.Group) { change(&g.Entities[i]) })
		}
		for name, change := range map[string]func(e *api.Entity){
			"no accounts":       func(e *api.Entity) { e.Chart, e.Links = nil, nil },
			"a later link":      func(e *api.Entity) { e.Links = append(e.Links, api.Link{From: 10, To: 1100, Since: date.Max}) },
			"one account":       func(e *api.Entity) { e.Chart, e.Links = e.Chart[7:8], e.Links[7:8] },
			"a parent":          func(e *api.Entity) { e.Chart[1].Parent = 10 },
			"another order":     func(e *api.Entity) { slices.Reverse(e.Links) },
			"as many accounts":  func(e *api.Entity) { e.Chart = assets(200, 0); e.Links = nil },
			"as many links":     func(e *api.Entity) { e.Links = links(400) },
			"a parent as end":   func(e *api.Entity) { e.Links[0].To = 1000 },
			"one end for three": func(e *api.Entity) { e.Links[0].To, e.Links[1].To, e.Links[2].To = 1300, 1300, 1300 },
		} {
			wantChanged(t, name, group.Sample(), true, func(g *api.Group) { change(&g.Entities[i]) })
		}
	}
}

// assets returns a chart of assets with a basis.
func assets(length, basis int) []api.Account {
	var l []api.Account
	for i := range length {
		l = append(l, api.Account{Code: i + 1, Kind: api.KindAsset, Basis: basis})
	}
	return l
}

// links returns links of the account 10 of the sample, each on a day of its own.
func links(length int) []api.Link {
	var l []api.Link
	for i := range length {
		l = append(l, api.Link{From: 10, To: 1010, Since: i})
	}
	return l
}

// P10.1: links lead to the accounts of four roles, and to no account of another role, whatever the position of the link is.
func TestLinksToRoles(t *testing.T) {
	for _, g := range []api.Group{group.Sample(), small()} {
		for _, r := range fields(&g.Roles) {
			want := slices.Contains(linked(), r.name)
			link := api.Link{From: 1000, To: *r.code, Since: date.Max}
			for i, e := range g.Entities {
				for j := range len(e.Links) + 1 {
					wantChanged(t, "a link to "+r.name, g, want, func(g *api.Group) {
						g.Entities[i].Chart = append(g.Entities[i].Chart, api.Account{Code: 1000, Kind: r.kind})
						g.Entities[i].Links = slices.Insert(g.Entities[i].Links, j, link)
					})
				}
			}
		}
	}
	for _, to := range []int{1010, 1100, 1300, 1000, 1500, 1200} {
		wantChanged(t, "a link to another asset", group.Sample(), true, func(g *api.Group) { g.Entities[2].Links[0].To = to })
	}
	for _, to := range []int{1600, 1700} {
		wantChanged(t, "a link to an asset of the consolidation", group.Sample(), false, func(g *api.Group) { g.Entities[2].Links[0].To = to })
	}
}

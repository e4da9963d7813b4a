package mapping_test

import (
	"math"
	"math/rand"
	"slices"
	"testing"

	"tallystone/api"
	"tallystone/chart"
	"tallystone/date"
	"tallystone/mapping"
)

// isValid reports what the chapter says of a mapping, word by word.
func isValid(e api.Entity, c []api.Account) bool {
	if !chart.Valid(c, true) || !chart.Valid(e.Chart, false) || len(e.Links) > 400 {
		return false
	}
	for i, l := range e.Links {
		fits := false
		for _, from := range e.Chart {
			for _, to := range c {
				fits = fits || from.Code == l.From && to.Code == l.To && from.Kind == to.Kind
			}
		}
		if !fits || l.Since < -25567 || l.Since > 84005 {
			return false
		}
		for j, other := range e.Links {
			if i != j && other.From == l.From && other.Since == l.Since {
				return false
			}
		}
	}
	return true
}

// wantValid tests whether a mapping is valid, and that it is so in whichever order its links are.
func wantValid(t *testing.T, name string, e api.Entity, c []api.Account, want bool) {
	t.Helper()
	backwards := clone(e)
	slices.Reverse(backwards.Links)
	if mapping.Valid(e, c) != want || mapping.Valid(backwards, c) != want {
		t.Errorf("%s: Valid is not %t", name, want)
	}
}

// many returns an entity with one account, which is mapped to the first account of the group again and again.
func many(length int) api.Entity {
	e := api.Entity{Chart: []api.Account{{Code: 1, Kind: api.KindAsset}}}
	for i := range length {
		e.Links = append(e.Links, api.Link{From: 1, To: 1000, Since: i})
	}
	return e
}

// P9.1: ordinary mappings, the smallest ones, and such that have all that a valid one need not have.
func TestValid(t *testing.T) {
	wantValid(t, "the sample", sample(), group(), true)
	wantValid(t, "nothing", api.Entity{}, nil, true)
	wantValid(t, "no accounts", api.Entity{Chart: []api.Account{}, Links: []api.Link{}}, []api.Account{}, true)
	wantValid(t, "an entity without accounts", api.Entity{}, group(), true)
	wantValid(t, "accounts without links", api.Entity{Chart: sample().Chart}, group(), true)
	wantValid(t, "a group without accounts", api.Entity{Chart: sample().Chart}, nil, true)
	wantValid(t, "links without a group", sample(), nil, false)
	wantValid(t, "links without accounts", api.Entity{Links: sample().Links}, group(), false)
	named := sample()
	named.Name, named.Currency, named.Joint = "\xff a name that is far longer than any other one", "", true
	wantValid(t, "another name", named, group(), true)
	for _, l := range sample().Links {
		e := sample()
		e.Links = []api.Link{l}
		wantValid(t, "one link", e, group(), true)
	}
}

// P9.1: both charts have to be valid, each one as what it is, also if there are no links.
func TestCharts(t *testing.T) {
	for name, change := range map[string]func(e *api.Entity, c *[]api.Account){
		"a basis in the chart of the entity":    func(e *api.Entity, c *[]api.Account) { e.Chart[2].Basis = api.BasisClosing },
		"bases in the chart of the entity":      func(e *api.Entity, c *[]api.Account) { e.Chart = group() },
		"no basis in the chart of the group":    func(e *api.Entity, c *[]api.Account) { (*c)[6].Basis = 0 },
		"no bases in the chart of the group":    func(e *api.Entity, c *[]api.Account) { *c = sample().Chart },
		"a basis beyond the limit":              func(e *api.Entity, c *[]api.Account) { (*c)[0].Basis = 4 },
		"another order in that of the entity":   func(e *api.Entity, c *[]api.Account) { slices.Reverse(e.Chart) },
		"another order in that of the group":    func(e *api.Entity, c *[]api.Account) { slices.Reverse(*c) },
		"an account of the entity twice":        func(e *api.Entity, c *[]api.Account) { e.Chart = append(e.Chart, e.Chart[6]) },
		"an account of the group twice":         func(e *api.Entity, c *[]api.Account) { *c = append(*c, (*c)[6]) },
		"a missing parent in the entity":        func(e *api.Entity, c *[]api.Account) { e.Chart[1].Parent = 1000 },
		"a missing parent in the group":         func(e *api.Entity, c *[]api.Account) { (*c)[1].Parent = 100 },
		"an account that is its own parent":     func(e *api.Entity, c *[]api.Account) { e.Chart[0].Parent = 100 },
		"one of the group that is its own":      func(e *api.Entity, c *[]api.Account) { (*c)[0].Parent = 1000 },
		"a code of the entity beyond the limit": func(e *api.Entity, c *[]api.Account) { e.Chart = append(e.Chart, api.Account{Code: 100000, Kind: 1}) },
		"a code of the group beyond the limit":  func(e *api.Entity, c *[]api.Account) { *c = append(*c, api.Account{Code: 100000, Kind: 1, Basis: 1}) },
		"no kind in the entity":                 func(e *api.Entity, c *[]api.Account) { e.Chart[2].Kind = 0 },
		"no kind in the group":                  func(e *api.Entity, c *[]api.Account) { (*c)[5].Kind = 0 },
		"the charts exchanged":                  func(e *api.Entity, c *[]api.Account) { e.Chart, *c = *c, e.Chart },
	} {
		e, c := sample(), group()
		change(&e, &c)
		wantValid(t, name, e, c, false)
		e.Links = nil
		wantValid(t, name+" and no links", e, c, false)
	}
	for _, length := range []int{200, 201} {
		r := rand.New(rand.NewSource(1))
		long, longGroup := accounts(r, length, 0), accounts(r, length, api.BasisAverage)
		wantValid(t, "a long chart of the entity", api.Entity{Chart: long}, group(), length == 200)
		wantValid(t, "a long chart of the group", api.Entity{}, longGroup, length == 200)
	}
}

// P9.1: 400 links are allowed, and 401 are not, also if each of them is a link.
func TestNumberOfLinks(t *testing.T) {
	for _, length := range []int{1, 2, 399, 400, 401, 402, 800, 100000} {
		e := many(length)
		for i := range e.Links {
			e.Links[i].Since %= 80000
		}
		wantValid(t, "many links", e, group(), length <= 400)
		if length > 1 {
			e.Links[length-1].Since = 0
			wantValid(t, "many links of which two begin together", e, group(), false)
		}
	}
}

// P9.1: links from and to accounts that are there or not, also those of the other chart or with the same code in both.
func TestEnds(t *testing.T) {
	for _, x := range []struct {
		l    api.Link
		want bool
	}{
		{api.Link{From: 120, To: 1000}, true}, {api.Link{From: 120, To: 1100}, true}, {api.Link{From: 120, To: 1200}, false}, {api.Link{From: 120, To: 0}, false},
		{api.Link{From: 130, To: 1000}, false}, {api.Link{From: 0, To: 1000}, false}, {api.Link{From: -120, To: 1000}, false}, {api.Link{From: 120, To: -1000}, false},
		{api.Link{From: 1000, To: 120}, false}, {api.Link{From: 120, To: 120}, false}, {api.Link{From: 1000, To: 1000}, false}, {api.Link{}, false},
		{api.Link{From: 120, To: 2000}, false}, {api.Link{From: 300, To: 1000}, false}, {api.Link{From: 500, To: 5000}, true}, {api.Link{From: 500, To: 4000}, false},
		{api.Link{From: 1<<32 + 120, To: 1000}, false}, {api.Link{From: 120, To: 1<<32 + 1000}, false}, {api.Link{From: math.MinInt, To: math.MaxInt}, false},
	} {
		for i := range sample().Links {
			e := sample()
			e.Links = slices.Insert(e.Links, i, x.l)
			wantValid(t, "a further link", e, group(), x.want)
		}
	}
	both := []api.Account{{Code: 1, Kind: api.KindAsset}, {Code: 2, Kind: api.KindIncome}}
	bothGroup := []api.Account{{Code: 1, Kind: api.KindIncome, Basis: 1}, {Code: 2, Kind: api.KindAsset, Basis: 1}, {Code: 3, Kind: api.KindAsset, Basis: 1}}
	for _, l := range []api.Link{{From: 1, To: 1}, {From: 1, To: 2}, {From: 1, To: 3}, {From: 2, To: 1}, {From: 2, To: 2}, {From: 2, To: 3}, {From: 3, To: 2}} {
		wantValid(t, "equal codes", api.Entity{Chart: both, Links: []api.Link{l}}, bothGroup, l.From == 1 && l.To > 1 || l.From == 2 && l.To == 1)
	}
}

// P9.1: the kinds of both accounts, each with each.
func TestKinds(t *testing.T) {
	for from := 1; from <= 5; from++ {
		for to := 1; to <= 5; to++ {
			e := api.Entity{Chart: []api.Account{{Code: 1, Kind: from}, {Code: 2, Kind: to}}, Links: []api.Link{{From: 1, To: 9}}}
			c := []api.Account{{Code: 8, Kind: from, Basis: 1}, {Code: 9, Kind: to, Basis: 1}}
			wantValid(t, "two kinds", e, c, from == to)
		}
	}
}

// P9.1: the date on which a link begins, at the limits and beyond them, for each of the links.
func TestSince(t *testing.T) {
	for _, since := range []int{date.Min, date.Max, date.Min - 1, date.Max + 1, 1, -1, math.MinInt, math.MaxInt, 1 << 32, 1<<32 + 1, -1 << 32} {
		for i := range sample().Links {
			e := sample()
			e.Links[i].Since = since
			wantValid(t, "a changed date", e, group(), isValid(e, group()))
			e.Links = e.Links[i : i+1]
			wantValid(t, "one link", e, group(), -25567 <= since && since <= 84005)
		}
	}
}

// P9.1: two links that begin together, wherever they stand, with the same end or with different ones; and such that have
// only the account or only the date in common.
func TestLinksThatBeginTogether(t *testing.T) {
	for i, l := range sample().Links {
		for j := range len(sample().Links) + 1 {
			e := sample()
			e.Links = slices.Insert(e.Links, j, l)
			wantValid(t, "a link twice", e, group(), false)
			if l.From == 100 {
				e.Links[j].To = 2100 - l.To
				wantValid(t, "two links with different ends", e, group(), false)
			}
			e.Links[j].Since = 77 + i
			wantValid(t, "another date", e, group(), true)
		}
	}
	e := sample()
	for i := range e.Links {
		e.Links[i].Since = 5
	}
	wantValid(t, "all on one day", e, group(), false)
	e.Links = unique(e.Links)
	wantValid(t, "one link of each account on one day", e, group(), true)
	e.Links = append(e.Links, api.Link{From: 5, To: 1000, Since: 100}, api.Link{From: 100, To: 1000, Since: 200})
	e.Chart = slices.Insert(e.Chart, 0, api.Account{Code: 5, Kind: api.KindAsset})
	wantValid(t, "the account of one link and the date of another one", e, group(), true)
}

// P9.1: mappings of chance are valid; some that were changed are valid exactly as another implementation says.
func TestRandomMappings(t *testing.T) {
	r := rand.New(rand.NewSource(2))
	valid := 0
	for range 3000 {
		e, c := randomMapping(r)
		wantValid(t, "a mapping of chance", e, c, true)
		if len(e.Links) == 0 {
			continue
		}
		i, j := r.Intn(len(e.Links)), r.Intn(len(e.Links))
		switch r.Intn(6) {
		case 0:
			e.Links[i].From = e.Links[j].From
		case 1:
			e.Links[i].To = e.Links[j].To
		case 2:
			e.Links[i].Since = e.Links[j].Since
		case 3:
			e.Links[i].Since += r.Intn(3) - 1
		case 4:
			e.Links[i].From, e.Links[i].To = e.Links[j].From, e.Links[j].To
		case 5:
			k := r.Intn(len(e.Chart))
			e.Chart[k].Kind = 1 + r.Intn(5)
		}
		want := isValid(e, c)
		wantValid(t, "a changed mapping of chance", e, c, want)
		if want {
			valid++
		}
	}
	if valid < 300 || valid > 2700 {
		t.Errorf("%d changed mappings are valid", valid)
	}
}

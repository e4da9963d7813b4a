package mapping_test

import (
	"math"
	"math/rand"
	"slices"

	"tallystone/api"
	"tallystone/date"
)

const most = 1000000000000

// extremes returns integers at, next to and far beyond all limits of the layer, small ones, and some whose lowest bits are
// codes or dates.
func extremes() []int {
	l := []int{math.MinInt, math.MinInt + 1, math.MaxInt - 1, math.MaxInt, 0, 1<<32 + 100, 1<<32 + 1000, 1 << 32, -1 << 32, math.MinInt + 100}
	for _, limit := range []int{1, 5, 100, 1000, 25567, 84005, 99999, most, 1 << 62} {
		l = append(l, limit-1, limit, limit+1, -limit-1, -limit, -limit+1)
	}
	return l
}

// group returns a chart of a group.
func group() []api.Account {
	return []api.Account{
		{Code: 1000, Kind: api.KindAsset, Basis: api.BasisClosing},
		{Code: 1100, Kind: api.KindAsset, Basis: api.BasisHistorical, Parent: 1000},
		{Code: 2000, Kind: api.KindLiability, Basis: api.BasisClosing},
		{Code: 3000, Kind: api.KindEquity, Basis: api.BasisHistorical},
		{Code: 4000, Kind: api.KindIncome, Basis: api.BasisAverage},
		{Code: 5000, Kind: api.KindExpense, Basis: api.BasisAverage},
		{Code: 5100, Kind: api.KindExpense, Basis: api.BasisAverage},
	}
}

// sample returns an entity with a valid mapping to the chart of the group. Its links are in no order; the account 400 is
// mapped since the first date, and 500 only on the last one.
func sample() api.Entity {
	return api.Entity{
		Name: "west", Currency: "USD",
		Chart: []api.Account{
			{Code: 100, Kind: api.KindAsset}, {Code: 110, Kind: api.KindAsset, Parent: 100}, {Code: 120, Kind: api.KindAsset},
			{Code: 200, Kind: api.KindLiability}, {Code: 300, Kind: api.KindEquity}, {Code: 400, Kind: api.KindIncome}, {Code: 500, Kind: api.KindExpense},
		},
		Links: []api.Link{
			{From: 100, To: 1100, Since: 50}, {From: 100, To: 1000}, {From: 100, To: 1000, Since: 90}, {From: 110, To: 1100, Since: 10},
			{From: 200, To: 2000, Since: -7}, {From: 300, To: 3000, Since: 50}, {From: 400, To: 4000, Since: date.Min}, {From: 500, To: 5100, Since: date.Max},
			{From: 110, To: 1000, Since: 60},
		},
	}
}

// unordered returns an entity whose mapping is valid to no chart: codes occur twice and are in no order, links are those of
// accounts that are not there, begin together, lead to anything, and begin on days that are no dates.
func unordered() api.Entity {
	return api.Entity{
		Chart: []api.Account{{Code: 30, Kind: 1, Basis: 1, Parent: 10}, {Code: 10, Kind: 9}, {Code: 30, Kind: 3}, {Code: 0}, {Code: -5, Kind: -1}, {Code: math.MaxInt}, {Code: math.MinInt}, {Code: 7}},
		Links: []api.Link{
			{From: 30, To: 1, Since: 5}, {From: 30, To: 2, Since: 5}, {From: 20, To: 3, Since: 5}, {From: 30, To: 4, Since: 4}, {From: 10, To: -6, Since: date.Min - 1},
			{From: 0, To: 0, Since: 0}, {From: -5, To: math.MinInt, Since: math.MinInt}, {From: math.MaxInt, To: 7, Since: math.MaxInt}, {From: math.MinInt, To: math.MaxInt, Since: 3},
			{From: 10, To: 8, Since: date.Max + 1}, {From: -5, To: 9, Since: 0}, {From: 0, To: 5, Since: 0}, {From: 30, To: 11, Since: 5},
		},
	}
}

// clone returns an entity that shares no memory with another one.
func clone(e api.Entity) api.Entity {
	e.Chart, e.Links = slices.Clone(e.Chart), slices.Clone(e.Links)
	return e
}

func equal(a, b api.Entity) bool {
	return a.Name == b.Name && a.Currency == b.Currency && a.Joint == b.Joint && slices.Equal(a.Chart, b.Chart) && slices.Equal(a.Links, b.Links)
}

// accounts returns a valid chart with kinds of chance, of an entity if the basis is 0.
func accounts(r *rand.Rand, length, basis int) []api.Account {
	l := make([]api.Account, length)
	code := 0
	for i := range l {
		code += 1 + r.Intn(400)
		l[i] = api.Account{Code: code, Kind: 1 + r.Intn(5), Basis: basis}
	}
	return l
}

// ofKind returns the accounts of a chart of one kind.
func ofKind(l []api.Account, kind int) []api.Account {
	return slices.DeleteFunc(slices.Clone(l), func(a api.Account) bool { return a.Kind != kind })
}

// randomMapping returns an entity with a valid mapping to a chart, and the chart. Most links begin on few days, so that many
// begin on the same one, and most accounts have links from the first of these days on.
func randomMapping(r *rand.Rand) (api.Entity, []api.Account) {
	e, c := api.Entity{Chart: accounts(r, 1+r.Intn(20), 0)}, accounts(r, 1+r.Intn(20), api.BasisClosing)
	days := []int{date.Min, -1, 0, 1, 50, r.Intn(date.Max), date.Max}
	for _, a := range e.Chart {
		ends := ofKind(c, a.Kind)
		if len(ends) == 0 {
			continue
		}
		for i, day := range days {
			if i == 0 && r.Intn(6) > 0 || r.Intn(3) == 0 {
				e.Links = append(e.Links, api.Link{From: a.Code, To: ends[r.Intn(len(ends))].Code, Since: day})
			}
		}
	}
	e.Links = unique(e.Links)
	r.Shuffle(len(e.Links), func(i, j int) { e.Links[i], e.Links[j] = e.Links[j], e.Links[i] })
	return e, c
}

// unique returns links without those that begin together with an earlier one.
func unique(l []api.Link) []api.Link {
	var rest []api.Link
	for _, a := range l {
		if !slices.ContainsFunc(rest, func(b api.Link) bool { return a.From == b.From && a.Since == b.Since }) {
			rest = append(rest, a)
		}
	}
	return rest
}

// randomEntity returns an entity with any chart and links, of which many are those of its accounts.
func randomEntity(r *rand.Rand) api.Entity {
	field := func() int {
		if l := extremes(); r.Intn(4) == 0 {
			return l[r.Intn(len(l))]
		}
		return r.Intn(8)
	}
	var e api.Entity
	for range r.Intn(12) {
		e.Chart = append(e.Chart, api.Account{Code: field(), Kind: field(), Basis: field(), Parent: field()})
	}
	for range r.Intn(20) {
		e.Links = append(e.Links, api.Link{From: field(), To: field(), Since: field()})
	}
	return e
}

// at finds what At should return, by going through the links from the first one on.
func at(e api.Entity, code, day int) (int, api.Errno) {
	if day < -25567 || day > 84005 {
		return 0, api.ErrRange
	}
	known := false
	for _, a := range e.Chart {
		known = known || a.Code == code
	}
	if !known {
		return 0, api.ErrNone
	}
	best := -1
	for i, l := range e.Links {
		if l.From == code && l.Since <= day && (best < 0 || l.Since > e.Links[best].Since) {
			best = i
		}
	}
	if best < 0 {
		return 0, api.ErrMapping
	}
	return e.Links[best].To, api.OK
}

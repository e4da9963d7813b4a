package group_test

import (
	"slices"
	"strconv"
	"strings"
	"testing"

	"tallystone/api"
	"tallystone/date"
	"tallystone/group"
)

// number returns the number with a text that a test knows to be one.
func number(t *testing.T, s string) int {
	t.Helper()
	n, err := strconv.Atoi(s)
	if err != nil {
		t.Fatal(err)
	}
	return n
}

// accounts reads a row of the table of the accounts of the group, as it stands in the chapter.
func accounts(t *testing.T, row string, kind, basis int) []api.Account {
	t.Helper()
	var l []api.Account
	for _, s := range strings.Split(row, ", ") {
		a := api.Account{Kind: kind, Basis: basis}
		text, historical := strings.CutSuffix(s, " historical")
		if historical {
			a.Basis = api.BasisHistorical
		}
		code, parent, hasParent := strings.Cut(strings.TrimSuffix(text, ")"), " (")
		a.Code = number(t, code)
		if hasParent {
			a.Parent = number(t, parent)
		}
		l = append(l, a)
	}
	return l
}

// column reads a row of the table of the accounts of an entity, as it stands in the chapter.
func column(row string) []string {
	return strings.Split(row, " | ")
}

// P10.1: the sample group is the one of the tables of the chapter.
func TestSampleChart(t *testing.T) {
	g := group.Sample()
	want := slices.Concat(
		accounts(t, "1000, 1010 (1000), 1100 (1000), 1200 (1000), 1300 historical, 1500 historical, 1600 historical, 1700 historical", api.KindAsset, api.BasisClosing),
		accounts(t, "2000, 2100 (2000)", api.KindLiability, api.BasisClosing),
		accounts(t, "3000, 3100, 3200, 3300, 3400, 3500", api.KindEquity, api.BasisHistorical),
		accounts(t, "4000, 4100 (4000), 4500, 4600, 4700", api.KindIncome, api.BasisAverage),
		accounts(t, "5000, 5100, 5500, 5600, 5700", api.KindExpense, api.BasisAverage),
	)
	if !slices.Equal(g.Chart, want) {
		t.Errorf("the chart is %v", g.Chart)
	}
	if g.Currency != "EUR" || g.Calendar != (api.Calendar{Year: 2026, Month: 1, Periods: 36}) {
		t.Errorf("currency %q, calendar %v", g.Currency, g.Calendar)
	}
	codes := "1500 1600 1700 1200 3100 3200 3300 3400 3500 4500 4600 4700 5500 5600 5700"
	for i, r := range fields(&g.Roles) {
		if want := number(t, strings.Fields(codes)[i]); *r.code != want {
			t.Errorf("%s is %d, not %d", r.name, *r.code, want)
		}
	}
}

// P10.1: the entities of the sample group are those of the chapter, with equal charts and links.
func TestSampleEntities(t *testing.T) {
	codes := column("10 | 20 | 30 | 40 | 50 | 60 | 70 | 80 | 90 | 100 | 110 | 120 | 130 | 140")
	kinds := column("asset | asset | asset | asset | asset | liability | liability | equity | equity | income | income | income | expense | expense")
	ends := column("1010 | 1100 | 1200 | 1300 | 1500 | 2000 | 2100 | 3000 | 3300 | 4000 | 4100 | 4700 | 5000 | 5100")
	first, err := date.Parse("1900-01-01")
	if err != api.OK {
		t.Fatalf("error %d", err)
	}
	var chart []api.Account
	var links []api.Link
	for i := range codes {
		kind := slices.Index([]string{"", "asset", "liability", "equity", "income", "expense"}, kinds[i])
		chart = append(chart, api.Account{Code: number(t, codes[i]), Kind: kind})
		links = append(links, api.Link{From: number(t, codes[i]), To: number(t, ends[i]), Since: first})
	}
	g := group.Sample()
	if len(g.Entities) != 4 {
		t.Fatalf("%d entities", len(g.Entities))
	}
	for i, want := range []api.Entity{{Name: "parent", Currency: "EUR"}, {Name: "north", Currency: "EUR"}, {Name: "west", Currency: "USD"}, {Name: "joint", Currency: "USD", Joint: true}} {
		want.Chart, want.Links = chart, links
		if !equalEntities(g.Entities[i], want) {
			t.Errorf("the entity %d is %v", i, g.Entities[i])
		}
	}
}

// P10.1, P10.4: the sample group is valid, also where a caller changed an earlier one; its parts share no memory.
func TestSampleIsNew(t *testing.T) {
	changed := group.Sample()
	for i := range changed.Entities {
		others := clone(changed)
		e := &changed.Entities[i]
		clear(e.Chart[:cap(e.Chart)])
		clear(e.Links[:cap(e.Links)])
		others.Entities[i].Chart, others.Entities[i].Links = e.Chart, e.Links
		if !equal(changed, others) {
			t.Errorf("with the entity %d, others were changed", i)
		}
	}
	clear(changed.Chart[:cap(changed.Chart)])
	clear(changed.Entities[:cap(changed.Entities)])
	if !group.Valid(group.Sample()) || !isValid(group.Sample()) {
		t.Error("the sample group is not valid")
	}
}

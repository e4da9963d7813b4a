package ledger_test

import (
	"math"
	"reflect"
	"slices"
	"testing"

	"tallystone/api"
	"tallystone/entry"
	"tallystone/ledger"
)

// extremes returns integers at, next to and far beyond all limits of the layer, and some whose lowest bits are small numbers.
func extremes() []int {
	l := []int{math.MinInt, math.MinInt + 1, math.MaxInt - 1, math.MaxInt, 0, 1 << 32, 1<<32 + 10, -1 << 32, math.MinInt + 10}
	for _, limit := range []int{1, 2, 4, 10, 12, 36, 120, 20454, 99999, 1000000000000} {
		l = append(l, limit-1, limit, limit+1, -limit-1, -limit, -limit+1)
	}
	return l
}

// wantErrors tests the errors of all functions, and that there is nothing beside an error. Balance and Trial have no period; dated
// is the error of Balance, and listed that of Trial.
func wantErrors(t *testing.T, name string, g api.Group, list []api.Entry, entity, account, p int, want, dated, listed api.Errno) {
	t.Helper()
	a, b, e := ledger.Turnover(g, list, entity, account, p)
	if e != want || e != api.OK && (a != 0 || b != 0) {
		t.Errorf("%s: the turnover is %d, %d, error %d, not %d", name, a, b, e, want)
	}
	if n, e := ledger.Movement(g, list, entity, account, p); e != want || e != api.OK && n != 0 {
		t.Errorf("%s: the movement is %d, error %d, not %d", name, n, e, want)
	}
	for _, date := range []int{math.MinInt, first() + 5, math.MaxInt} {
		if n, e := ledger.Balance(g, list, entity, account, date); e != dated || e != api.OK && n != 0 {
			t.Errorf("%s: the balance is %d, error %d, not %d", name, n, e, dated)
		}
		if l, e := ledger.Trial(g, list, entity, date); e != listed || e != api.OK && len(l) != 0 {
			t.Errorf("%s: the trial balance is %v, error %d, not %d", name, l, e, listed)
		}
	}
}

// P14.1: the entries have to be those of a journal of the group, whatever else is asked.
func TestNoJournal(t *testing.T) {
	a, b := sale(1, 0, 3, 5), sale(2, 1, 3, 7)
	back := entry.Reverse(a, 3, a.Date)
	spoiled := sale(4, 0, 3, 5)
	spoiled.Lines[0].Amount++
	unknown := sale(4, 0, 3, 5)
	unknown.Lines[0].Account = 1010
	for name, list := range map[string][]api.Entry{
		"an empty entry":         {a, {}},
		"the same ID":            {a, b, sale(1, 2, 3, 5)},
		"not balanced":           {a, spoiled},
		"an unknown account":     {unknown, a},
		"before the calendar":    {a, moved(b, first()-1)},
		"no such entity":         {a, sale(2, 4, 0, 5)},
		"a reversal too early":   {back, a},
		"a reversal of nothing":  {b, back},
		"two reversals":          {a, back, entry.Reverse(a, 4, a.Date)},
		"a reversal of another":  {a, b, entry.Reverse(b, 4, b.Date-1)},
		"a reversal of reversal": {a, back, entry.Reverse(back, 4, a.Date)},
	} {
		for _, entity := range []int{0, 1, 4, -1} {
			for _, account := range []int{10, 9} {
				for _, p := range []int{0, 36} {
					wantErrors(t, name, sample(), list, entity, account, p, api.ErrArg, api.ErrArg, api.ErrArg)
				}
			}
		}
	}
}

// P14.1: one entry too many is none of a journal.
func TestTooManyEntries(t *testing.T) {
	var list []api.Entry
	for i := range api.MaxEntries + 1 {
		list = append(list, sale(i+1, 0, 3, 5))
	}
	wantErrors(t, "all entries", sample(), list[:api.MaxEntries], 0, 10, 0, api.OK, api.OK, api.OK)
	wantErrors(t, "one more", sample(), list, 0, 10, 0, api.ErrArg, api.ErrArg, api.ErrArg)
}

// P14.1: a group that is not valid has no journal, even without entries.
func TestInvalidGroup(t *testing.T) {
	for name, change := range map[string]func(g *api.Group){
		"nothing":          func(g *api.Group) { *g = api.Group{} },
		"no entity":        func(g *api.Group) { g.Entities = nil },
		"no periods":       func(g *api.Group) { g.Calendar.Periods = 0 },
		"too many periods": func(g *api.Group) { g.Calendar.Periods = api.MaxPeriods + 1 },
		"a missing parent": func(g *api.Group) { g.Entities[2].Chart[0].Parent = 999 },
		"a missing link":   func(g *api.Group) { g.Entities[2].Links[0].To = 999 },
		"two names":        func(g *api.Group) { g.Entities[1].Name = "west" },
	} {
		g := sample()
		change(&g)
		for _, list := range [][]api.Entry{nil, {sale(1, 0, 3, 5)}} {
			wantErrors(t, name, g, list, 0, 10, 0, api.ErrArg, api.ErrArg, api.ErrArg)
			wantErrors(t, name, g, list, 4, 9, 36, api.ErrArg, api.ErrArg, api.ErrArg)
		}
	}
}

// P14.1: entities and periods out of range are named before an unknown account.
func TestOutOfRange(t *testing.T) {
	g, list := sample(), []api.Entry{sale(1, 0, 3, 5)}
	for _, account := range []int{10, 9, 0, math.MinInt} {
		known := api.OK
		if account != 10 {
			known = api.ErrUnknown
		}
		for _, n := range extremes() {
			if n < 0 || n >= 4 {
				wantErrors(t, "the entity", g, list, n, account, 0, api.ErrRange, api.ErrRange, api.ErrRange)
				wantErrors(t, "the entity and the period", g, list, n, account, 36, api.ErrRange, api.ErrRange, api.ErrRange)
			}
			if n < 0 || n >= 36 {
				wantErrors(t, "the period", g, list, 0, account, n, api.ErrRange, known, api.OK)
			}
		}
		wantErrors(t, "the last entity and period", g, list, 3, account, 35, known, known, api.OK)
	}
}

// P14.1: an account is one of the chart of the entity; those of the group and of other entities are unknown.
func TestUnknownAccounts(t *testing.T) {
	g, list := sample(), []api.Entry{sale(1, 0, 3, 5), sale(2, 1, 3, 7)}
	for entity := range g.Entities {
		for _, account := range append(extremes(), 15, 20, 30, 100, 140, 1000, 1010, 3200) {
			want := api.ErrUnknown
			if slices.ContainsFunc(g.Entities[entity].Chart, func(a api.Account) bool { return a.Code == account }) {
				want = api.OK
			}
			wantErrors(t, "an account", g, list, entity, account, 0, want, want, api.OK)
		}
	}
	wantErrors(t, "an account of parent", g, list, 0, 15, 0, api.OK, api.OK, api.OK)
	wantErrors(t, "an account of parent", g, list, 1, 15, 0, api.ErrUnknown, api.ErrUnknown, api.OK)
	wantErrors(t, "an account that north has not", g, list, 1, 20, 0, api.ErrUnknown, api.ErrUnknown, api.OK)
	wantErrors(t, "an account of the group", g, list, 0, 1010, 0, api.ErrUnknown, api.ErrUnknown, api.OK)
}

// P14.1: a chart without accounts has no balances, but it is no error of a trial balance.
func TestEmptyChart(t *testing.T) {
	g := sample()
	g.Entities[3].Chart, g.Entities[3].Links = nil, nil
	wantErrors(t, "an empty chart", g, []api.Entry{sale(1, 0, 3, 5)}, 3, 10, 0, api.ErrUnknown, api.ErrUnknown, api.OK)
	wantTrial(t, g, nil, 3, math.MaxInt, nil)
}

// P14.1: arguments stay as they are, and a trial balance is new each time.
func TestArgumentsStay(t *testing.T) {
	entries := func() []api.Entry {
		a := sale(1, 0, 40, 5)
		return []api.Entry{a, sale(2, 0, 3, 7), entry.Reverse(a, 3, a.Date+2)}
	}
	g, list := sample(), entries()
	date := first() + 41
	l, _ := ledger.Trial(g, list, 0, date)
	wantBalance(t, g, list, 0, 10, date, 12)
	wantTurnover(t, g, list, 0, 10, 1, 5, -5)
	clear(l[:cap(l)])
	wantTrial(t, g, list, 0, date, balances(10, 12, 100, -12))
	if !reflect.DeepEqual(g, sample()) || !reflect.DeepEqual(list, entries()) {
		t.Errorf("the arguments have become %v, %v", g, list)
	}
}

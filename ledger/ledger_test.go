package ledger_test

import (
	"math"
	"math/rand"
	"slices"
	"testing"
	"time"

	"tallystone/api"
	"tallystone/entry"
	"tallystone/group"
	"tallystone/journal"
	"tallystone/ledger"
)

// sample returns the sample group, in which parent has an account 15 that belongs to another one, and north has not the account
// 20.
func sample() api.Group {
	g := group.Sample()
	e := g.Entities
	e[0].Chart = slices.Insert(e[0].Chart, 1, api.Account{Code: 15, Kind: api.KindAsset, Parent: 10})
	e[1].Chart, e[1].Links = slices.Delete(e[1].Chart, 1, 2), slices.Delete(e[1].Links, 1, 2)
	return g
}

// with returns the sample group with another calendar.
func with(c api.Calendar) api.Group {
	g := sample()
	g.Calendar = c
	return g
}

// calendars returns valid calendars of one, some and the most periods, with different months, leap years, and the first and the
// last dates that there are.
func calendars() []api.Calendar {
	return []api.Calendar{
		group.Sample().Calendar,
		{Year: 2027, Month: 11, Periods: 5},
		{Year: 2026, Month: 4, Periods: 1},
		{Year: 1900, Month: 1, Periods: 30},
		{Year: 2190, Month: 1, Periods: 120},
	}
}

// firstDay and lastDay return the first and the last day of a period, as another implementation counts days.
func firstDay(c api.Calendar, p int) int {
	return int(time.Date(c.Year, time.Month(c.Month+p), 1, 0, 0, 0, 0, time.UTC).Unix() / 86400)
}

func lastDay(c api.Calendar, p int) int {
	return firstDay(c, p+1) - 1
}

// first returns the first day of the calendar of the sample group.
func first() int {
	return firstDay(sample().Calendar, 0)
}

// sale returns an entry of an entity, some days after the beginning of the calendar of the sample group.
func sale(id, entity, day, amount int) api.Entry {
	return api.Entry{ID: id, Entity: entity, Date: first() + day, Kind: api.EntryNormal, Text: "sale", Lines: []api.Line{
		{Account: 10, Amount: amount, Partner: -1},
		{Account: 100, Amount: -amount, Partner: 3 - entity},
	}}
}

// moved returns an entry on another date.
func moved(x api.Entry, date int) api.Entry {
	x.Date = date
	return x
}

func balances(numbers ...int) []api.Balance {
	var l []api.Balance
	for b := range slices.Chunk(numbers, 2) {
		l = append(l, api.Balance{Account: b[0], Amount: b[1]})
	}
	return l
}

// amountsOf returns the amounts of the lines of an account of an entity that are dated from one day to another.
func amountsOf(list []api.Entry, entity, account, from, to int) []int {
	var amounts []int
	for _, x := range list {
		for _, l := range x.Lines {
			if x.Entity == entity && l.Account == account && from <= x.Date && x.Date <= to {
				amounts = append(amounts, l.Amount)
			}
		}
	}
	return amounts
}

// sumsOf returns the sum of those amounts that are positive, and of those that are negative.
func sumsOf(amounts []int) (debits, credits int) {
	for _, n := range amounts {
		debits, credits = debits+max(n, 0), credits+min(n, 0)
	}
	return debits, credits
}

// trialOf returns what Trial returns for an entity of the sample group, whose codes are less than 200, as the chapter has it.
func trialOf(list []api.Entry, entity, date int) []api.Balance {
	var trial []api.Balance
	for code := range 200 {
		debits, credits := sumsOf(amountsOf(list, entity, code, math.MinInt, date))
		if debits+credits != 0 {
			trial = append(trial, api.Balance{Account: code, Amount: debits + credits})
		}
	}
	return trial
}

func wantBalance(t *testing.T, g api.Group, list []api.Entry, entity, account, date, want int) {
	t.Helper()
	if n, e := ledger.Balance(g, list, entity, account, date); n != want || e != api.OK {
		t.Errorf("the balance of %d of the entity %d at %d is %d, error %d, not %d", account, entity, date, n, e, want)
	}
}

// wantTurnover tests the turnover and the movement.
func wantTurnover(t *testing.T, g api.Group, list []api.Entry, entity, account, p, debits, credits int) {
	t.Helper()
	if a, b, e := ledger.Turnover(g, list, entity, account, p); a != debits || b != credits || e != api.OK {
		t.Errorf("the turnover of %d of the entity %d in the period %d is %d, %d, error %d, not %d, %d", account, entity, p, a, b, e, debits, credits)
	}
	if n, e := ledger.Movement(g, list, entity, account, p); n != debits+credits || e != api.OK {
		t.Errorf("the movement of %d of the entity %d in the period %d is %d, error %d, not %d", account, entity, p, n, e, debits+credits)
	}
}

func wantTrial(t *testing.T, g api.Group, list []api.Entry, entity, date int, want []api.Balance) {
	t.Helper()
	if l, e := ledger.Trial(g, list, entity, date); !slices.Equal(l, want) || e != api.OK {
		t.Errorf("the trial balance of the entity %d at %d is %v, error %d, not %v", entity, date, l, e, want)
	}
}

// wantAccount tests everything that the ledger tells of an account, on given dates and in given periods.
func wantAccount(t *testing.T, g api.Group, list []api.Entry, entity, account int, dates, periods []int) {
	t.Helper()
	for _, date := range dates {
		debits, credits := sumsOf(amountsOf(list, entity, account, math.MinInt, date))
		wantBalance(t, g, list, entity, account, date, debits+credits)
	}
	for _, p := range periods {
		debits, credits := sumsOf(amountsOf(list, entity, account, firstDay(g.Calendar, p), lastDay(g.Calendar, p)))
		wantTurnover(t, g, list, entity, account, p, debits, credits)
	}
}

// randomEntry returns an entry that is valid for the sample group, and sometimes the reversal of one of a list.
func randomEntry(r *rand.Rand, g api.Group, list []api.Entry) api.Entry {
	p := r.Intn(min(g.Calendar.Periods, 4))
	day := [...]int{firstDay(g.Calendar, p), firstDay(g.Calendar, p) + r.Intn(28), lastDay(g.Calendar, p)}[r.Intn(3)]
	id := 1 + r.Intn(1000)
	if len(list) > 0 && r.Intn(4) == 0 {
		return entry.Reverse(list[r.Intn(len(list))], id, day)
	}
	x := moved(sale(id, r.Intn(3), 0, 1+r.Intn(5)), day)
	x.Kind = api.EntryNormal + r.Intn(2)
	sum := 0
	for i := range x.Lines {
		x.Lines[i].Account = []int{10, 15, 100, 130}[r.Intn(4)]
		if x.Lines[i].Account == 15 && x.Entity != 0 {
			x.Lines[i].Account = 60
		}
	}
	for range r.Intn(4) {
		n := 1 + r.Intn(3)
		if r.Intn(2) == 0 {
			n = -n
		}
		x.Lines = append(x.Lines, api.Line{Account: []int{10, 80, 130}[r.Intn(3)], Amount: n, Partner: -1})
		sum += n
	}
	if sum != 0 {
		x.Lines = append(x.Lines, api.Line{Account: 140, Amount: -sum, Partner: -1})
	}
	return x
}

// randomEntries returns the entries of a journal of chance.
func randomEntries(r *rand.Rand, g api.Group, tries int) []api.Entry {
	j, _ := journal.New(g)
	for range tries {
		j.Post(randomEntry(r, g, j.Entries()))
	}
	return j.Entries()
}

// P14.1: the balances, movements and turnovers of journals of chance are those of another implementation.
func TestRandomLedgers(t *testing.T) {
	r := rand.New(rand.NewSource(1))
	for _, c := range calendars() {
		g := with(c)
		for range 2 {
			list := randomEntries(r, g, 40)
			for entity := range g.Entities {
				var dates, periods []int
				for p := range min(c.Periods, 4) {
					dates, periods = append(dates, firstDay(c, p), lastDay(c, p)), append(periods, p)
				}
				dates = append(dates, math.MinInt, firstDay(c, 0)-1, list[r.Intn(len(list))].Date-1, lastDay(c, c.Periods-1), math.MaxInt)
				for _, a := range g.Entities[entity].Chart {
					wantAccount(t, g, list, entity, a.Code, dates, periods)
				}
				for _, date := range dates {
					wantTrial(t, g, list, entity, date, trialOf(list, entity, date))
				}
			}
		}
	}
}

// P14.1: the example of the chapter.
func TestExample(t *testing.T) {
	g, a := sample(), sale(1, 0, 2, 100)
	c := g.Calendar
	list := []api.Entry{a, entry.Reverse(a, 2, firstDay(c, 1)+9)}
	wantBalance(t, g, list, 0, 10, lastDay(c, 0), 100)
	wantTurnover(t, g, list, 0, 10, 0, 100, 0)
	wantTurnover(t, g, list, 0, 10, 1, 0, -100)
	wantBalance(t, g, list, 0, 10, lastDay(c, 1), 0)
	wantTrial(t, g, list, 0, lastDay(c, 0), balances(10, 100, 100, -100))
	wantTrial(t, g, list, 0, lastDay(c, 1), nil)
}

// P14.1: without entries, and for an entity without any, everything is 0.
func TestNothing(t *testing.T) {
	g := sample()
	for _, list := range [][]api.Entry{nil, {}, {sale(1, 0, 3, 5), sale(2, 1, 3, 7)}} {
		for _, a := range g.Entities[2].Chart {
			wantBalance(t, g, list, 2, a.Code, math.MaxInt, 0)
			wantTurnover(t, g, list, 2, a.Code, 0, 0, 0)
		}
		wantTrial(t, g, list, 2, math.MaxInt, nil)
	}
}

// P14.1: an account has its own lines only, with whatever partners, and not those of accounts that belong to it, nor those of
// other entities.
func TestOwnLines(t *testing.T) {
	g := sample()
	x := sale(1, 0, 3, 5)
	x.Lines = []api.Line{
		{Account: 15, Amount: 7, Partner: -1}, {Account: 10, Amount: 4, Partner: 1}, {Account: 10, Amount: 3, Partner: 2},
		{Account: 10, Amount: -2, Partner: -1}, {Account: 10, Amount: 4, Partner: 1}, {Account: 60, Amount: -16, Partner: 3},
	}
	list := []api.Entry{sale(2, 1, 3, 1000), x, sale(3, 2, 3, 2000)}
	wantBalance(t, g, list, 0, 10, x.Date, 9)
	wantTurnover(t, g, list, 0, 10, 0, 11, -2)
	wantBalance(t, g, list, 0, 15, x.Date, 7)
	wantTurnover(t, g, list, 0, 15, 0, 7, 0)
	wantTrial(t, g, list, 0, x.Date, balances(10, 9, 15, 7, 60, -16))
	wantTrial(t, g, list, 1, x.Date, balances(10, 1000, 100, -1000))
}

// P14.1: entries of all kinds count, in whatever order their dates are.
func TestKindsAndOrder(t *testing.T) {
	g := sample()
	a, b := sale(1, 0, 40, 100), sale(2, 0, 5, 30)
	b.Kind = api.EntryAdjustment
	list := []api.Entry{a, b, entry.Reverse(b, 3, first()+35), sale(4, 0, 10, 1)}
	for day, want := range map[int]int{4: 0, 5: 30, 9: 30, 10: 31, 34: 31, 35: 1, 39: 1, 40: 101, 41: 101} {
		wantBalance(t, g, list, 0, 10, first()+day, want)
	}
	wantTurnover(t, g, list, 0, 10, 0, 31, 0)
	wantTurnover(t, g, list, 0, 10, 1, 100, -30)
	wantTurnover(t, g, list, 0, 10, 2, 0, 0)
}

// P14.1: debits and credits that cancel each other are no balance, but they are turnover.
func TestCancelled(t *testing.T) {
	g, a := sample(), sale(1, 0, 3, 5)
	list := []api.Entry{a, entry.Reverse(a, 2, a.Date)}
	wantTurnover(t, g, list, 0, 10, 0, 5, -5)
	wantTurnover(t, g, list, 0, 100, 0, 5, -5)
	wantTrial(t, g, list, 0, a.Date, nil)
}

// P14.1: sums need not be amounts. A full journal with as many lines and accounts as there may be has the greatest sums.
func TestGreatSums(t *testing.T) {
	g := sample()
	chart := make([]api.Account, api.MaxAccounts)
	for i := range chart {
		chart[i] = api.Account{Code: api.MaxCode - api.MaxAccounts + 1 + i, Kind: api.KindAsset}
	}
	g.Entities[2].Chart, g.Entities[2].Links = chart, nil
	var list []api.Entry
	for i := range api.MaxEntries {
		x := sale(i+1, 2, 20, 5)
		x.Lines = nil
		for range api.MaxLines / 2 {
			x.Lines = append(x.Lines, api.Line{Account: chart[0].Code, Amount: api.MaxAmount, Partner: -1}, api.Line{Account: api.MaxCode, Amount: -api.MaxAmount, Partner: -1})
		}
		list = append(list, x)
	}
	n := api.MaxEntries * api.MaxLines / 2 * api.MaxAmount
	wantBalance(t, g, list, 2, chart[0].Code, list[0].Date, n)
	wantTurnover(t, g, list, 2, chart[0].Code, 0, n, 0)
	wantTurnover(t, g, list, 2, api.MaxCode, 0, 0, -n)
	wantTrial(t, g, list, 2, list[0].Date, balances(chart[0].Code, n, api.MaxCode, -n))
	wantTrial(t, g, list, 2, list[0].Date-1, nil)
}

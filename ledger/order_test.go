package ledger_test

import (
	"math"
	"math/rand"
	"slices"
	"testing"

	"tallystone/api"
	"tallystone/entry"
	"tallystone/ledger"
)

// datesOf returns the dates of entries, with the days before and behind them, and dates outside of the calendar.
func datesOf(list []api.Entry) []int {
	dates := []int{math.MinInt, math.MaxInt, 0}
	for _, x := range list {
		dates = append(dates, x.Date-1, x.Date, x.Date+1)
	}
	slices.Sort(dates)
	return slices.Compact(dates)
}

// reverses reports whether one of two entries is the reversal of the other one.
func reverses(a, b api.Entry) bool {
	return a.Of == b.ID || b.Of == a.ID
}

// P14.2: the balances of a trial balance add up to 0; it has exactly the accounts whose balance is not 0.
func TestBalanced(t *testing.T) {
	g, r := sample(), rand.New(rand.NewSource(2))
	lengths := map[int]int{}
	for range 8 {
		list := randomEntries(r, g, 20)
		for entity := range g.Entities {
			for _, date := range datesOf(list) {
				trial, e := ledger.Trial(g, list, entity, date)
				sum := 0
				var want []api.Balance
				for _, b := range trial {
					sum += b.Amount
				}
				for _, a := range g.Entities[entity].Chart {
					if n, _ := ledger.Balance(g, list, entity, a.Code, date); n != 0 {
						want = append(want, api.Balance{Account: a.Code, Amount: n})
					}
				}
				if sum != 0 || e != api.OK || !slices.Equal(trial, want) {
					t.Errorf("the trial balance %v, error %d, adds up to %d; the balances are %v", trial, e, sum, want)
				}
				lengths[len(trial)]++
			}
		}
	}
	if len(lengths) < 5 {
		t.Errorf("trial balances have only the lengths %v", lengths)
	}
}

// P14.3: the balance at the end of a period is that on the day before it begins, plus the movement, which is the sum of debits and
// credits.
func TestPeriods(t *testing.T) {
	r := rand.New(rand.NewSource(3))
	for _, c := range calendars() {
		g := with(c)
		list := randomEntries(r, g, 60)
		for _, account := range []int{10, 100, 130, 140} {
			before, total := 0, 0
			for p := range c.Periods {
				movement, e := ledger.Movement(g, list, 0, account, p)
				debits, credits, f := ledger.Turnover(g, list, 0, account, p)
				if e != api.OK || f != api.OK || debits < 0 || credits > 0 || movement != debits+credits {
					t.Errorf("the movement in the period %d of %v is %d, error %d, that is %d and %d, error %d", p, c, movement, e, debits, credits, f)
				}
				wantBalance(t, g, list, 0, account, firstDay(c, p)-1, before)
				wantBalance(t, g, list, 0, account, lastDay(c, p), before+movement)
				before += movement
				total += debits - credits
			}
			wantBalance(t, g, list, 0, account, math.MaxInt, before)
			if total == 0 {
				t.Errorf("the account %d has no turnover in %v", account, c)
			}
		}
	}
}

// P14.3: the first and the last day of a period belong to it, and the days beside it do not.
func TestPeriodEnds(t *testing.T) {
	for _, c := range calendars() {
		g := with(c)
		for p := range c.Periods {
			var list []api.Entry
			inside, before := 0, 0
			for i, date := range []int{firstDay(c, p) - 1, firstDay(c, p), lastDay(c, p), lastDay(c, p) + 1} {
				if date < firstDay(c, 0) || date > lastDay(c, c.Periods-1) {
					continue
				}
				n := 1 << i
				list = append(list, moved(sale(i+1, 0, 0, n), date))
				switch i {
				case 0:
					before = n
				case 1, 2:
					inside += n
				}
			}
			wantTurnover(t, g, list, 0, 10, p, inside, 0)
			wantTurnover(t, g, list, 0, 100, p, 0, -inside)
			wantBalance(t, g, list, 0, 10, firstDay(c, p)-1, before)
			wantBalance(t, g, list, 0, 10, lastDay(c, p), before+inside)
		}
	}
}

// P14.4: if two neighbours are exchanged, and none is the reversal of the other one, the trial balance stays the same.
func TestNeighbours(t *testing.T) {
	g, r := sample(), rand.New(rand.NewSource(4))
	kept, pairs := 0, 0
	for range 30 {
		list := randomEntries(r, g, 12)
		for i := range len(list) - 1 {
			exchanged := slices.Clone(list)
			exchanged[i], exchanged[i+1] = list[i+1], list[i]
			if reverses(list[i], list[i+1]) {
				wantErrors(t, "a reversal before its entry", g, exchanged, 0, 10, 0, api.ErrArg, api.ErrArg, api.ErrArg)
				pairs++
				continue
			}
			kept++
			for entity := range 3 {
				for _, date := range []int{list[i].Date - 1, list[i].Date, list[i+1].Date - 1, list[i+1].Date, math.MaxInt} {
					wantTrial(t, g, exchanged, entity, date, trialOf(list, entity, date))
				}
			}
		}
	}
	if kept < 50 || pairs < 3 {
		t.Errorf("%d neighbours were exchanged, and %d were an entry and its reversal", kept, pairs)
	}
}

// P14.5: if an entry and its reversal on the same date are added, the trial balance at every date stays the same.
func TestReversals(t *testing.T) {
	g, r := sample(), rand.New(rand.NewSource(5))
	for range 40 {
		list := randomEntries(r, g, 12)
		x := randomEntry(r, g, nil)
		x.ID = 2000
		i := r.Intn(len(list) + 1)
		added := slices.Insert(slices.Clone(list), i, x)
		added = slices.Insert(added, i+1+r.Intn(len(added)-i), entry.Reverse(x, 2001, x.Date))
		for entity := range 3 {
			for _, date := range append(datesOf(list), x.Date-1, x.Date, x.Date+1) {
				want, _ := ledger.Trial(g, list, entity, date)
				wantTrial(t, g, added, entity, date, want)
			}
		}
	}
}

// P14.5: a reversal on a later date leaves the entry in the trial balances in between.
func TestLaterReversal(t *testing.T) {
	g, x := sample(), sale(1, 1, 10, 50)
	list := []api.Entry{sale(3, 1, 0, 7), x, entry.Reverse(x, 2, x.Date+30)}
	wantTrial(t, g, list, 1, x.Date-1, balances(10, 7, 100, -7))
	wantTrial(t, g, list, 1, x.Date, balances(10, 57, 100, -57))
	wantTrial(t, g, list, 1, x.Date+29, balances(10, 57, 100, -57))
	wantTrial(t, g, list, 1, x.Date+30, balances(10, 7, 100, -7))
}

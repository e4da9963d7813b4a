package carry_test

import (
	"math"
	"math/big"
	"math/rand"
	"slices"
	"testing"
	"time"

	"tallystone/api"
	"tallystone/carry"
	"tallystone/group"
)

const most = 1000000000000

// extremes returns integers at, next to and far beyond all limits of the layer, and some whose lowest bits are small numbers.
func extremes() []int {
	l := []int{math.MinInt, math.MinInt + 1, math.MaxInt - 1, math.MaxInt, 0, 1 << 32, 1<<32 + 4000, -1 << 32, math.MinInt + 4000}
	for _, limit := range []int{1, 12, 36, 120, 3300, 4000, 5700, 25567, 84005, 99999, most} {
		l = append(l, limit-1, limit, limit+1, -limit-1, -limit, -limit+1)
	}
	return l
}

// with returns the sample group with another calendar.
func with(c api.Calendar) api.Group {
	g := group.Sample()
	g.Calendar = c
	return g
}

// other returns a group whose account of retained earnings is another one, with further income and expense accounts, some of
// which belong to others.
func other() api.Group {
	g := group.Sample()
	g.Calendar = api.Calendar{Year: 2027, Month: 4, Periods: 30}
	g.Roles.Retained = 3000
	g.Chart = slices.Insert(g.Chart, 0, api.Account{Code: 1, Kind: api.KindExpense, Basis: api.BasisAverage, Parent: 5000},
		api.Account{Code: 2, Kind: api.KindIncome, Basis: api.BasisAverage})
	g.Chart = append(g.Chart, api.Account{Code: 99999, Kind: api.KindEquity, Basis: api.BasisHistorical, Parent: 3000})
	return g
}

// groups returns valid groups with fiscal years from different months on, leap years, calendars of one, some and the most
// periods, and the first and the last dates that there are.
func groups() []api.Group {
	return []api.Group{
		group.Sample(), other(),
		with(api.Calendar{Year: 2027, Month: 3, Periods: 37}),
		with(api.Calendar{Year: 2026, Month: 4, Periods: 1}),
		with(api.Calendar{Year: 1900, Month: 1, Periods: 13}),
		with(api.Calendar{Year: 2190, Month: 1, Periods: 120}),
		with(api.Calendar{Year: 1969, Month: 2, Periods: 24}),
	}
}

// beginOf returns the first day of the fiscal year of a period, as another implementation counts days.
func beginOf(c api.Calendar, p int) int {
	return int(time.Date(c.Year+p/12, time.Month(c.Month), 1, 0, 0, 0, 0, time.UTC).Unix() / 86400)
}

// day returns the number of days of a date.
func day(year, month, day int) int {
	return int(time.Date(year, time.Month(month), day, 0, 0, 0, 0, time.UTC).Unix() / 86400)
}

// dated returns amounts, of which each has an account, a date and an amount.
func dated(numbers ...int) []carry.Dated {
	var l []carry.Dated
	for d := range slices.Chunk(numbers, 3) {
		l = append(l, carry.Dated{Account: d[0], Date: d[1], Amount: d[2]})
	}
	return l
}

func balances(numbers ...int) []api.Balance {
	var l []api.Balance
	for b := range slices.Chunk(numbers, 2) {
		l = append(l, api.Balance{Account: b[0], Amount: b[1]})
	}
	return l
}

// kindOf returns the kind of an account, or 0 if there is none.
func kindOf(g api.Group, account int) int {
	for _, a := range g.Chart {
		if a.Code == account {
			return a.Kind
		}
	}
	return 0
}

// placeOf returns the account on which an amount is shown, as the chapter has it, word by word.
func placeOf(g api.Group, account, date, p int) int {
	if kind := kindOf(g, account); (kind == 4 || kind == 5) && date < beginOf(g.Calendar, p) {
		return g.Roles.Retained
	}
	return account
}

// errorOf returns the error of dated amounts, whatever their sums are.
func errorOf(g api.Group, l []carry.Dated, p int) api.Errno {
	isTooGreat := func(d carry.Dated) bool { return d.Amount < -most || d.Amount > most }
	isUnknown := func(d carry.Dated) bool { return kindOf(g, d.Account) == 0 }
	switch {
	case !group.Valid(g):
		return api.ErrArg
	case p < 0 || p >= g.Calendar.Periods:
		return api.ErrRange
	case slices.ContainsFunc(l, isUnknown):
		return api.ErrNone
	case slices.ContainsFunc(l, isTooGreat):
		return api.ErrArg
	}
	return api.OK
}

// sumOf returns the sum of those amounts for which a condition holds.
func sumOf(l []carry.Dated, holds func(carry.Dated) bool) (int, api.Errno) {
	sum := new(big.Int)
	for _, d := range l {
		if holds(d) {
			sum.Add(sum, big.NewInt(int64(d.Amount)))
		}
	}
	if sum.CmpAbs(big.NewInt(most)) > 0 {
		return 0, api.ErrRange
	}
	return int(sum.Int64()), api.OK
}

func wantPlace(t *testing.T, g api.Group, account, date, p, want int, wantError api.Errno) {
	t.Helper()
	if n, e := carry.Place(g, account, date, p); n != want || e != wantError {
		t.Errorf("Place(%d, %d, %d): %d, error %d, not %d, error %d", account, date, p, n, e, want, wantError)
	}
}

func wantCarry(t *testing.T, g api.Group, l []carry.Dated, p int, want []api.Balance, wantError api.Errno) {
	t.Helper()
	if sums, e := carry.Carry(g, l, p); !slices.Equal(sums, want) || e != wantError {
		t.Errorf("Carry(%v, %d): %v, error %d, not %v, error %d", l, p, sums, e, want, wantError)
	}
}

func wantResult(t *testing.T, g api.Group, l []carry.Dated, p, want int, wantError api.Errno) {
	t.Helper()
	if n, e := carry.Result(g, l, p); n != want || e != wantError {
		t.Errorf("Result(%v, %d): %d, error %d, not %d, error %d", l, p, n, e, want, wantError)
	}
}

func wantRetained(t *testing.T, g api.Group, l []carry.Dated, p, want int, wantError api.Errno) {
	t.Helper()
	if n, e := carry.Retained(g, l, p); n != want || e != wantError {
		t.Errorf("Retained(%v, %d): %d, error %d, not %d, error %d", l, p, n, e, want, wantError)
	}
}

// wantError tests that all functions of dated amounts have an error.
func wantError(t *testing.T, g api.Group, l []carry.Dated, p int, want api.Errno) {
	t.Helper()
	wantCarry(t, g, l, p, nil, want)
	wantResult(t, g, l, p, 0, want)
	wantRetained(t, g, l, p, 0, want)
}

// wantAll compares all functions of dated amounts with another implementation, and returns the error of Carry.
func wantAll(t *testing.T, g api.Group, l []carry.Dated, p int) api.Errno {
	t.Helper()
	if e := errorOf(g, l, p); e != api.OK {
		wantError(t, g, l, p, e)
		return e
	}
	place := func(d carry.Dated) int { return placeOf(g, d.Account, d.Date, p) }
	result, e := sumOf(l, func(d carry.Dated) bool { return kindOf(g, place(d)) >= 4 })
	wantResult(t, g, l, p, result, e)
	retained, e := sumOf(l, func(d carry.Dated) bool { return place(d) != d.Account })
	wantRetained(t, g, l, p, retained, e)
	var sums []api.Balance
	for _, a := range g.Chart {
		sum, e := sumOf(l, func(d carry.Dated) bool { return place(d) == a.Code })
		if e != api.OK {
			wantCarry(t, g, l, p, nil, e)
			return e
		}
		if sum != 0 {
			sums = append(sums, api.Balance{Account: a.Code, Amount: sum})
		}
	}
	wantCarry(t, g, l, p, sums, api.OK)
	return api.OK
}

// datesOf returns dates around the beginnings of all fiscal years of a calendar, and ones that are no dates.
func datesOf(c api.Calendar) []int {
	dates := []int{math.MinInt, math.MaxInt, -25568, 84006, 1 << 32, -1 << 32}
	for p := 0; p < c.Periods+12; p += 12 {
		begin := beginOf(c, p)
		dates = append(dates, begin-1, begin, begin+1, begin+100)
	}
	return dates
}

// randomDated returns dated amounts that are valid, most of them around the beginnings of fiscal years.
func randomDated(r *rand.Rand, g api.Group, length, greatest int) []carry.Dated {
	dates := datesOf(g.Calendar)
	var l []carry.Dated
	for range length {
		account := g.Chart[r.Intn(len(g.Chart))].Code
		l = append(l, carry.Dated{Account: account, Date: dates[r.Intn(len(dates))], Amount: r.Intn(2*greatest+1) - greatest})
	}
	return l
}

// P15.1: the example of the chapter, and the one of the document.
func TestExamples(t *testing.T) {
	g := group.Sample()
	wantPlace(t, g, 4000, day(2026, 12, 31), 11, 4000, api.OK)
	wantPlace(t, g, 4000, day(2026, 12, 31), 12, 3300, api.OK)
	l := dated(1010, day(2026, 2, 5), 50, 4000, day(2026, 2, 5), -50, 5500, day(2026, 2, 28), 10, 3200, day(2026, 2, 28), -10)
	wantCarry(t, g, l, 1, balances(1010, 50, 3200, -10, 4000, -50, 5500, 10), api.OK)
	wantResult(t, g, l, 1, -40, api.OK)
	wantRetained(t, g, l, 1, 0, api.OK)
	wantCarry(t, g, l, 12, balances(1010, 50, 3200, -10, 3300, -40), api.OK)
	wantResult(t, g, l, 12, 0, api.OK)
	wantRetained(t, g, l, 12, -40, api.OK)
}

// P15.1: an amount of a later fiscal year, or of a later period, is not treated in another way.
func TestLater(t *testing.T) {
	g := group.Sample()
	l := dated(4000, day(2026, 1, 31), 1, 4000, day(2026, 2, 1), 10, 4000, day(2027, 1, 1), 100, 5000, day(2035, 1, 1), 1000, 5000, day(2025, 12, 31), 10000)
	for p := range 12 {
		wantCarry(t, g, l, p, balances(3300, 10000, 4000, 111, 5000, 1000), api.OK)
		wantResult(t, g, l, p, 1111, api.OK)
		wantRetained(t, g, l, p, 10000, api.OK)
		wantCarry(t, g, l, p+12, balances(3300, 10011, 4000, 100, 5000, 1000), api.OK)
		wantCarry(t, g, l, p+24, balances(3300, 10111, 5000, 1000), api.OK)
	}
}

// P15.1: sums of 0 are left out, also such as come from amounts, and so are accounts without amounts.
func TestZeros(t *testing.T) {
	g, early, late := group.Sample(), day(2026, 6, 30), day(2027, 6, 30)
	wantCarry(t, g, nil, 12, nil, api.OK)
	wantResult(t, g, nil, 12, 0, api.OK)
	wantRetained(t, g, nil, 12, 0, api.OK)
	wantCarry(t, g, dated(1010, early, 0, 4000, early, 0, 4000, late, 0), 12, nil, api.OK)
	wantCarry(t, g, dated(4000, early, 5, 4000, late, -5), 12, balances(3300, 5, 4000, -5), api.OK)
	wantCarry(t, g, dated(4000, early, 5, 4000, late, -5), 11, nil, api.OK)
	wantCarry(t, g, dated(4000, early, 5, 3300, late, -5, 1010, late, 7), 12, balances(1010, 7), api.OK)
	wantCarry(t, g, dated(5000, early, 5, 4500, early, -5, 5700, late, 1), 12, balances(5700, 1), api.OK)
}

// P15.1: the amounts of the account of retained earnings itself are shown on it, but are not counted by Retained.
func TestOwnRetained(t *testing.T) {
	g, early, late := group.Sample(), day(2026, 6, 30), day(2027, 6, 30)
	l := dated(3300, early, 1, 3300, late, 10, 4000, early, 100, 5700, early, 1000, 4000, late, 10000)
	wantCarry(t, g, l, 12, balances(3300, 1111, 4000, 10000), api.OK)
	wantRetained(t, g, l, 12, 1100, api.OK)
	wantResult(t, g, l, 12, 10000, api.OK)
}

// P15.1: all accounts around the beginnings of all fiscal years, compared with another implementation.
func TestPlaces(t *testing.T) {
	for _, g := range groups() {
		for p := range g.Calendar.Periods {
			if p > 14 && p%12 > 1 && p%12 < 11 {
				continue
			}
			for _, a := range g.Chart {
				for _, date := range []int{math.MinInt, beginOf(g.Calendar, p) - 1, beginOf(g.Calendar, p), beginOf(g.Calendar, p+12), math.MaxInt} {
					wantPlace(t, g, a.Code, date, p, placeOf(g, a.Code, date, p), api.OK)
				}
			}
		}
	}
}

// P15.1: amounts of chance, compared with another implementation.
func TestRandomAmounts(t *testing.T) {
	r := rand.New(rand.NewSource(1))
	count := map[api.Errno]int{}
	for range 150 {
		for _, g := range groups() {
			l := randomDated(r, g, r.Intn(40), []int{2, 1000, most / 2, most}[r.Intn(4)])
			count[wantAll(t, g, l, r.Intn(g.Calendar.Periods))]++
		}
	}
	if count[api.OK] < 400 || count[api.ErrRange] < 100 {
		t.Errorf("the errors are %v", count)
	}
}

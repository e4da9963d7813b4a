package quote_test

import (
	"math"
	"reflect"
	"slices"
	"testing"

	"tallystone/api"
	"tallystone/quote"
)

// extremes returns integers at, next to and far beyond all limits of the layer, and some whose lowest bits are small numbers.
func extremes() []int {
	l := []int{math.MinInt, math.MinInt + 1, math.MinInt + 39, math.MaxInt - 1, math.MaxInt, 0, 1 << 32, 1<<32 + 1, -1 << 32, math.MinInt + 1<<32 + 20000}
	for _, limit := range []int{1, 2, 3, 24, 40, 120, 1000, 20000, 20040, unit, most, day(1900, 1, 1), day(2199, 12, 31)} {
		l = append(l, limit-1, limit, limit+1, -limit-1, -limit, -limit+1)
	}
	return l
}

// notCurrencies returns strings that are no currencies.
func notCurrencies() []string {
	return []string{"", "U", "US", "USDX", "usd", "Usd", "USd", "U D", " USD", "USD ", "US\n", "U5D", "US@", "US[", "\x00\x00\x00", "\xff\xff\xff", "€", "ÄU", "ĀĂĄ", "EURUSD"}
}

// wantErrors tests the errors of all functions, and that there is nothing beside an error. Dated is the error of the functions of
// a date, and periodic that of the functions of a period.
func wantErrors(t *testing.T, g api.Group, l []api.Rate, currency string, date, p int, dated, periodic api.Errno) {
	t.Helper()
	wantWhich(t, g, l, currency, date, api.Rate{}, dated)
	wantCross(t, g, l, currency, "EUR", date, "0", dated)
	wantCross(t, g, l, "EUR", currency, date, "0", dated)
	wantCross(t, g, l, currency, currency, date, "0", dated)
	wantAverage(t, g, l, currency, p, 0, periodic)
	if periodic != api.ErrRate {
		wantDays(t, g, l, currency, p, nil, periodic)
	}
}

// P17.1: what is passed has to be a currency, whatever the date and the period are.
func TestNoCurrency(t *testing.T) {
	for _, currency := range notCurrencies() {
		for _, n := range []int{9, -1, 20000, 24, math.MinInt, math.MaxInt} {
			for _, l := range [][]api.Rate{nil, example()} {
				wantErrors(t, sample(), l, currency, n, n, api.ErrArg, api.ErrArg)
				wantCross(t, sample(), l, currency, "CHF", n, "0", api.ErrArg)
				wantCross(t, sample(), l, "CHF", currency, n, "0", api.ErrArg)
			}
		}
	}
}

// P17.1: the group has to have a currency, even where there are no rates; a string that is none is none as that of the group, too.
func TestNoGroupCurrency(t *testing.T) {
	for _, currency := range notCurrencies() {
		g := sample()
		g.Currency = currency
		for _, l := range [][]api.Rate{nil, example()} {
			for _, n := range []int{9, -1, 20000, 24, math.MaxInt} {
				wantErrors(t, g, l, "USD", n, n, api.ErrArg, api.ErrArg)
				wantErrors(t, g, l, currency, n, n, api.ErrArg, api.ErrArg)
			}
		}
	}
}

// P17.1: all rates have to be valid, also those that are not looked at.
func TestInvalidRates(t *testing.T) {
	for name, bad := range map[string]api.Rate{
		"the group currency": spot("EUR", 20000, 1), "no currency": spot("gbp", 20000, 1), "no kind": {Currency: "GBP", When: 1, Value: 1},
		"an unknown kind": {Currency: "GBP", Kind: 3, When: 1, Value: 1}, "too early": spot("GBP", day(1899, 12, 31), 1), "too late": spot("GBP", day(2200, 1, 1), 1),
		"a negative period": average("GBP", -1, 1), "too late a period": average("GBP", 120, 1), "no value": spot("GBP", 20000, 0),
		"a negative value": average("GBP", 9, -1), "too great a value": spot("GBP", 20000, most+1), "nothing": {},
		"the same rate": spot("USD", 20000, 900000), "the same key": spot("USD", 20000, 5), "extremes": {Currency: "GBP", Kind: math.MaxInt, When: math.MinInt, Value: math.MaxInt},
	} {
		for i := range 3 {
			l := slices.Insert(example(), i, bad)
			t.Run(name, func(t *testing.T) {
				for _, currency := range []string{"USD", "EUR", "CHF", "GBP", "usd", ""} {
					for _, n := range []int{9, 20000, -1, math.MaxInt} {
						wantErrors(t, sample(), l, currency, n, n, api.ErrArg, api.ErrArg)
					}
				}
			})
		}
	}
}

// P17.1: there may be 1000 rates, all of which count, and no more.
func TestManyRates(t *testing.T) {
	g := sample()
	var l []api.Rate
	for i := range 1000 {
		l = append(l, spot("USD", 21000-i, 1+i))
	}
	wantWhich(t, g, l, "USD", 20001, l[999], api.OK)
	wantWhich(t, g, l, "USD", 20000, api.Rate{}, api.ErrRate)
	wantWhich(t, g, l, "USD", 21040, l[0], api.OK)
	for p := range 24 {
		wantPeriod(t, g, l, "USD", p)
	}
	wantErrors(t, g, append(l, spot("GBP", 20000, 1)), "USD", 20001, 9, api.ErrArg, api.ErrArg)
	wantErrors(t, g, append(l, average("USD", 9, 1)), "EUR", -1<<40, 24, api.ErrArg, api.ErrArg)
}

// P17.1: a calendar that is not valid has no periods, which is named before a period that is none; dates need no calendar.
func TestInvalidCalendar(t *testing.T) {
	l := append(example(), average("USD", 9, 5))
	for _, c := range []api.Calendar{
		{}, {Year: 2024, Month: 1}, {Year: 2024, Month: 1, Periods: -24}, {Year: 2024, Month: 1, Periods: 121}, {Year: 2024, Month: 0, Periods: 24},
		{Year: 2024, Month: 13, Periods: 24}, {Year: 1899, Month: 12, Periods: 24}, {Year: 2199, Month: 12, Periods: 2}, {Year: math.MaxInt, Month: math.MinInt, Periods: 24},
	} {
		g := sample()
		g.Calendar = c
		for _, p := range []int{0, 9, -1, 24, 121, math.MinInt} {
			for _, currency := range []string{"USD", "EUR", "CHF", "usd"} {
				wantAverage(t, g, l, currency, p, 0, api.ErrArg)
				wantDays(t, g, l, currency, p, nil, api.ErrArg)
			}
		}
		wantDay(t, g, l, "USD", "EUR", 20005)
		wantWhich(t, g, l, "USD", 20005, l[0], api.OK)
		wantCross(t, g, l, "USD", "EUR", 20005, "9/10", api.OK)
	}
}

// P17.1: numbers that are no dates, or no periods, are named before a missing rate.
func TestOutOfRange(t *testing.T) {
	g := sample()
	for _, l := range [][]api.Rate{nil, example(), append(example(), average("USD", 9, 5), average("USD", 24, 5))} {
		for _, currency := range []string{"USD", "EUR", "CHF"} {
			for _, n := range extremes() {
				if n < day(1900, 1, 1) || n > day(2199, 12, 31) {
					wantErrors(t, g, l, currency, n, -1, api.ErrRange, api.ErrRange)
					wantCross(t, g, l, currency, "JPY", n, "0", api.ErrRange)
				} else {
					wantDay(t, g, l, currency, "EUR", n)
				}
				if n < 0 || n > 23 {
					wantErrors(t, g, l, currency, math.MaxInt, n, api.ErrRange, api.ErrRange)
				} else {
					wantPeriod(t, g, l, currency, n)
				}
			}
		}
	}
}

// P17.1: nothing of the group matters but its currency and its calendar.
func TestRestOfGroup(t *testing.T) {
	g, l := sample(), example()
	g.Chart = []api.Account{{Code: -5, Parent: 7}, {}}
	g.Roles = api.Roles{Investment: -1}
	g.Entities = []api.Entity{{Name: "\xff", Currency: "usd", Joint: true}, {Currency: "USD"}}
	for date := 19990; date < 20060; date++ {
		wantDay(t, g, l, "USD", "EUR", date)
	}
	for p := range 24 {
		wantPeriod(t, g, l, "USD", p)
	}
	wantErrors(t, g, l, "CHF", 20000, 9, api.ErrRate, api.ErrRate)
	wantErrors(t, g, l, "CHF", 1<<40, 24, api.ErrRange, api.ErrRange)
}

// P17.1: arguments stay as they are, and what is returned is new each time.
func TestArgumentsStay(t *testing.T) {
	given := func() []api.Rate {
		return []api.Rate{spot("USD", 20010, 940000), average("USD", 10, 5), spot("GBP", 20003, 7), spot("USD", 20000, 900000), spot("USD", 20005, 1)}
	}
	g, l := sample(), given()
	want := []api.Rate{l[3], l[4], l[0]}
	days, _ := quote.Days(g, l, "USD", 9)
	for i := range days[:cap(days)] {
		days[:cap(days)][i] = spot("ZZZ", 7, 7)
	}
	wantDays(t, g, l, "USD", 9, want, api.OK)
	days, _ = quote.Days(g, l, "USD", 9)
	wantAverage(t, g, l, "USD", 9, 613334, api.OK)
	wantDay(t, g, l, "USD", "GBP", 20010)
	if !slices.Equal(l, given()) || !reflect.DeepEqual(g, sample()) {
		t.Errorf("the arguments have become %v, %v", g, l)
	}
	clear(l)
	if !slices.Equal(days, want) {
		t.Errorf("the result has become %v", days)
	}
}

package quote_test

import (
	"math/big"
	"slices"
	"testing"
	"time"

	"tallystone/api"
	"tallystone/quote"
	"tallystone/rational"
)

const (
	most = 1000000000000 // the greatest value of a rate
	unit = 1000000       // the rate of the group currency
)

// sample returns a group with EUR whose periods are the months of 2024 and 2025; the date 20000 is 2024-10-04, in the period 9. A
// quotation looks at nothing else of the group.
func sample() api.Group {
	return api.Group{Currency: "EUR", Calendar: api.Calendar{Year: 2024, Month: 1, Periods: 24}}
}

func spot(currency string, when, value int) api.Rate {
	return api.Rate{Currency: currency, Kind: api.RateSpot, When: when, Value: value}
}

func average(currency string, when, value int) api.Rate {
	return api.Rate{Currency: currency, Kind: api.RateAverage, When: when, Value: value}
}

// example returns the rates of the example of the chapter.
func example() []api.Rate {
	return []api.Rate{spot("USD", 20000, 900000), spot("USD", 20010, 940000)}
}

// day returns the number of days of a date, as another implementation counts days.
func day(year, month, day int) int {
	return int(time.Date(year, time.Month(month), day, 0, 0, 0, 0, time.UTC).Unix() / 86400)
}

// firstOf and lastOf return the first and the last day of a period, as another implementation counts days.
func firstOf(c api.Calendar, p int) int {
	return day(c.Year, c.Month+p, 1)
}

func lastOf(c api.Calendar, p int) int {
	return day(c.Year, c.Month+p+1, 0)
}

// whichOf returns the rate of a currency at a date, or false, as the chapter has it: it looks at one day after the other, from
// the date backward.
func whichOf(g api.Group, l []api.Rate, currency string, date int) (api.Rate, bool) {
	if currency == g.Currency {
		return spot(currency, date, unit), true
	}
	for age := range 41 {
		for _, r := range l {
			if r.Currency == currency && r.Kind == 1 && r.When == date-age {
				return r, true
			}
		}
	}
	return api.Rate{}, false
}

// daysOf returns the spot rates of a currency in a period: it looks at one day after the other.
func daysOf(g api.Group, l []api.Rate, currency string, p int) []api.Rate {
	var days []api.Rate
	for when := firstOf(g.Calendar, p); when <= lastOf(g.Calendar, p); when++ {
		for _, r := range l {
			if r.Currency == currency && r.Kind == 1 && r.When == when {
				days = append(days, r)
			}
		}
	}
	return days
}

// averageOf returns the average rate of a currency for a period, or false, as the chapter has it.
func averageOf(g api.Group, l []api.Rate, currency string, p int) (int, bool) {
	if currency == g.Currency {
		return unit, true
	}
	for _, r := range l {
		if r.Currency == currency && r.Kind == 2 && r.When == p {
			return r.Value, true
		}
	}
	days := daysOf(g, l, currency, p)
	if len(days) == 0 {
		return 0, false
	}
	return meanOf(days), true
}

// meanOf returns the greatest integer that is at most the mean and a half.
func meanOf(days []api.Rate) int {
	sum := new(big.Rat)
	for _, r := range days {
		sum.Add(sum, big.NewRat(int64(r.Value), int64(len(days))))
	}
	sum.Add(sum, big.NewRat(1, 2))
	return int(new(big.Int).Div(sum.Num(), sum.Denom()).Int64())
}

// crossOf returns the text of the cross rate, or false.
func crossOf(g api.Group, l []api.Rate, from, to string, date int) (string, bool) {
	a, ok := whichOf(g, l, from, date)
	b, found := whichOf(g, l, to, date)
	if !ok || !found {
		return "0", false
	}
	return big.NewRat(int64(a.Value), int64(b.Value)).RatString(), true
}

// missing returns the error of a quotation of valid arguments.
func missing(found bool) api.Errno {
	if found {
		return api.OK
	}
	return api.ErrRate
}

// wantWhich tests the spot rate at a date, and the rate from which it comes.
func wantWhich(t *testing.T, g api.Group, l []api.Rate, currency string, date int, want api.Rate, wantError api.Errno) {
	t.Helper()
	if r, e := quote.Which(g, l, currency, date); r != want || e != wantError {
		t.Errorf("Which(%q, %d) of %d rates: %v, error %d, not %v, error %d", currency, date, len(l), r, e, want, wantError)
	}
	if n, e := quote.Spot(g, l, currency, date); n != want.Value || e != wantError {
		t.Errorf("Spot(%q, %d) of %d rates: %d, error %d, not %d, error %d", currency, date, len(l), n, e, want.Value, wantError)
	}
}

func wantAverage(t *testing.T, g api.Group, l []api.Rate, currency string, p, want int, wantError api.Errno) {
	t.Helper()
	if n, e := quote.Average(g, l, currency, p); n != want || e != wantError {
		t.Errorf("Average(%q, %d) of %d rates: %d, error %d, not %d, error %d", currency, p, len(l), n, e, want, wantError)
	}
}

func wantDays(t *testing.T, g api.Group, l []api.Rate, currency string, p int, want []api.Rate, wantError api.Errno) {
	t.Helper()
	if days, e := quote.Days(g, l, currency, p); !slices.Equal(days, want) || e != wantError {
		t.Errorf("Days(%q, %d) of %d rates: %v, error %d, not %v, error %d", currency, p, len(l), days, e, want, wantError)
	}
}

func wantCross(t *testing.T, g api.Group, l []api.Rate, from, to string, date int, want string, wantError api.Errno) {
	t.Helper()
	if x, e := quote.Cross(g, l, from, to, date); rational.Text(x) != want || e != wantError {
		t.Errorf("Cross(%q, %q, %d) of %d rates: %s, error %d, not %s, error %d", from, to, date, len(l), rational.Text(x), e, want, wantError)
	}
}

// wantDay tests all quotations of two currencies at a date against the other implementation.
func wantDay(t *testing.T, g api.Group, l []api.Rate, from, to string, date int) {
	t.Helper()
	for _, currency := range []string{from, to} {
		r, ok := whichOf(g, l, currency, date)
		wantWhich(t, g, l, currency, date, r, missing(ok))
	}
	text, ok := crossOf(g, l, from, to, date)
	wantCross(t, g, l, from, to, date, text, missing(ok))
}

// wantPeriod tests all quotations of a currency for a period against the other implementation.
func wantPeriod(t *testing.T, g api.Group, l []api.Rate, currency string, p int) {
	t.Helper()
	n, ok := averageOf(g, l, currency, p)
	wantAverage(t, g, l, currency, p, n, missing(ok))
	wantDays(t, g, l, currency, p, daysOf(g, l, currency, p), api.OK)
}

// P17.1: the examples of the chapter.
func TestExample(t *testing.T) {
	g, l := sample(), example()
	wantWhich(t, g, l, "USD", 20000, l[0], api.OK)
	wantWhich(t, g, l, "USD", 20009, l[0], api.OK)
	wantWhich(t, g, l, "USD", 20010, l[1], api.OK)
	wantWhich(t, g, l, "USD", 20050, l[1], api.OK)
	wantWhich(t, g, l, "USD", 20051, api.Rate{}, api.ErrRate)
	wantWhich(t, g, l, "USD", 19999, api.Rate{}, api.ErrRate)
	wantAverage(t, g, l, "USD", 9, 920000, api.OK)
	wantDays(t, g, l, "USD", 9, l, api.OK)
	wantCross(t, g, l, "USD", "EUR", 20000, "9/10", api.OK)
	wantCross(t, g, l, "EUR", "USD", 20000, "10/9", api.OK)
	if quote.MaxAge != 40 {
		t.Errorf("the greatest age is %d", quote.MaxAge)
	}
}

// P17.1: the group currency has the rate 1 at every date and for every period, without any rates.
func TestGroupCurrency(t *testing.T) {
	for _, l := range [][]api.Rate{nil, {}, example(), {average("USD", 0, 7)}} {
		g := sample()
		for _, date := range []int{day(1900, 1, 1), -1, 0, 1, 20000, 20010, day(2199, 12, 31)} {
			wantWhich(t, g, l, "EUR", date, api.Rate{Currency: "EUR", Kind: api.RateSpot, When: date, Value: 1000000}, api.OK)
			wantCross(t, g, l, "EUR", "EUR", date, "1", api.OK)
		}
		for p := range 24 {
			wantAverage(t, g, l, "EUR", p, 1000000, api.OK)
			wantDays(t, g, l, "EUR", p, nil, api.OK)
		}
	}
	g := sample()
	g.Currency = "USD"
	l := []api.Rate{spot("EUR", 20000, 1100000), average("EUR", 9, 1200000)}
	wantWhich(t, g, l, "USD", 20000, spot("USD", 20000, 1000000), api.OK)
	wantWhich(t, g, l, "EUR", 20000, l[0], api.OK)
	wantAverage(t, g, l, "USD", 9, 1000000, api.OK)
	wantAverage(t, g, l, "EUR", 9, 1200000, api.OK)
	wantDays(t, g, l, "EUR", 9, l[:1], api.OK)
}

// P17.1: a spot rate is used for 40 days after its own, and not before it.
func TestAge(t *testing.T) {
	first, last := day(1900, 1, 1), day(2199, 12, 31)
	for _, when := range []int{first, first + 1, first + 40, -40, -20, 0, 20000, last - 40, last - 39, last} {
		l := []api.Rate{spot("USD", when, most)}
		for date := max(first, when-50); date <= min(last, when+90); date++ {
			if age := date - when; 0 <= age && age <= 40 {
				wantWhich(t, sample(), l, "USD", date, l[0], api.OK)
			} else {
				wantWhich(t, sample(), l, "USD", date, api.Rate{}, api.ErrRate)
			}
		}
	}
}

// P17.1: the latest rate that is not later than the date is used, wherever it stands, and not the greatest or the last one.
func TestLatest(t *testing.T) {
	l := []api.Rate{
		spot("USD", 110, 5), spot("USD", 100, 9), spot("USD", 130, 1), average("USD", 0, 7), spot("GBP", 129, 3), spot("USD", 120, 8),
		spot("USD", 131, 9), spot("GBP", 90, 4), average("USD", 119, 6), spot("USD", -5, 2), spot("USD", 0, most), spot("USD", 300, 1),
	}
	for date := -10; date < 350; date++ {
		wantDay(t, sample(), l, "USD", "GBP", date)
		wantDay(t, sample(), l, "EUR", "USD", date)
	}
	wantWhich(t, sample(), l, "USD", 129, l[5], api.OK)
	wantWhich(t, sample(), l, "GBP", 128, l[7], api.OK)
	wantWhich(t, sample(), l, "USD", 40, l[10], api.OK)
	wantWhich(t, sample(), l, "USD", 41, api.Rate{}, api.ErrRate)
}

// P17.1: an average rate is none at a date, and a currency without spot rates has none.
func TestNoSpotRate(t *testing.T) {
	l := []api.Rate{average("USD", 20, 900000), average("USD", 119, 900000), spot("GBP", 119, 1)}
	for _, date := range []int{20, 119, 119 + 40, 20000} {
		wantWhich(t, sample(), l, "USD", date, api.Rate{}, api.ErrRate)
		wantWhich(t, sample(), l, "CHF", date, api.Rate{}, api.ErrRate)
		wantWhich(t, sample(), nil, "USD", date, api.Rate{}, api.ErrRate)
		wantCross(t, sample(), l, "USD", "EUR", date, "0", api.ErrRate)
		wantCross(t, sample(), l, "EUR", "USD", date, "0", api.ErrRate)
		wantCross(t, sample(), l, "USD", "USD", date, "0", api.ErrRate)
	}
	wantCross(t, sample(), l, "GBP", "USD", 119, "0", api.ErrRate)
	wantCross(t, sample(), l, "USD", "GBP", 119, "0", api.ErrRate)
	wantCross(t, sample(), l, "GBP", "EUR", 119, "1/1000000", api.OK)
}

// P17.1: cross rates are quotients in lowest terms, also of the least and the greatest rates.
func TestCross(t *testing.T) {
	l := []api.Rate{spot("USD", 20000, 900000), spot("GBP", 19970, 1200000), spot("AAA", 20000, 1), spot("ZZZ", 19990, most), spot("CHF", 19960, 7)}
	for _, c := range []struct {
		from, to, want string
	}{
		{"USD", "GBP", "3/4"}, {"GBP", "USD", "4/3"}, {"USD", "USD", "1"}, {"USD", "EUR", "9/10"}, {"EUR", "GBP", "5/6"},
		{"AAA", "ZZZ", "1/1000000000000"}, {"ZZZ", "AAA", "1000000000000"}, {"EUR", "ZZZ", "1/1000000"}, {"ZZZ", "EUR", "1000000"},
		{"CHF", "USD", "7/900000"}, {"CHF", "ZZZ", "7/1000000000000"}, {"ZZZ", "CHF", "1000000000000/7"}, {"AAA", "AAA", "1"},
	} {
		wantCross(t, sample(), l, c.from, c.to, 20000, c.want, api.OK)
	}
	wantCross(t, sample(), l, "CHF", "USD", 20001, "0", api.ErrRate)
	wantCross(t, sample(), l, "USD", "CHF", 20001, "0", api.ErrRate)
	wantCross(t, sample(), l, "USD", "GBP", 20010, "3/4", api.OK)
	wantCross(t, sample(), l, "USD", "GBP", 20011, "0", api.ErrRate)
}

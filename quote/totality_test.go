package quote_test

import (
	"math/rand"
	"testing"

	"tallystone/api"
	"tallystone/calendar"
	"tallystone/date"
	"tallystone/rate"
)

func anyNumber(r *rand.Rand) int {
	switch l := extremes(); r.Intn(6) {
	case 0:
		return l[r.Intn(len(l))]
	case 1:
		return r.Intn(26) - 1
	}
	return day(2024, 9, 20) + r.Intn(150)
}

func anyText(r *rand.Rand) string {
	if l := notCurrencies(); r.Intn(10) == 0 {
		return l[r.Intn(len(l))]
	}
	return all()[r.Intn(6)]
}

// anyRates returns rates of which a field of one may be anything, or of which two may have the same key.
func anyRates(r *rand.Rand) []api.Rate {
	l := randomRates(r, 1+r.Intn(40))
	x := &l[r.Intn(len(l))]
	switch r.Intn(25) {
	case 0:
		x.Currency = anyText(r)
	case 1:
		x.Kind = anyNumber(r)
	case 2:
		x.When = anyNumber(r)
	case 3:
		x.Value = anyNumber(r)
	case 4:
		l = append(l, *x)
	case 5:
		*x = api.Rate{}
	}
	return l
}

// anyGroup returns a group whose currency or calendar may be anything.
func anyGroup(r *rand.Rand) api.Group {
	g := sample()
	switch r.Intn(15) {
	case 0:
		g.Currency = anyText(r)
	case 1:
		g.Calendar = api.Calendar{Year: anyNumber(r), Month: anyNumber(r), Periods: anyNumber(r)}
	case 2:
		g.Calendar = api.Calendar{Year: 2023 + r.Intn(2), Month: 1 + r.Intn(13), Periods: r.Intn(130)}
	}
	return g
}

// wantAll tests all functions with any arguments, and counts the errors that they should return.
func wantAll(t *testing.T, g api.Group, l []api.Rate, from, to string, n, p int, count map[api.Errno]int) {
	t.Helper()
	isValid := rate.Valid(g.Currency, l) && rate.Currency(from) && rate.Currency(to)
	switch {
	case !isValid:
		wantCross(t, g, l, from, to, n, "0", api.ErrArg)
	case !date.Valid(n):
		wantCross(t, g, l, from, to, n, "0", api.ErrRange)
		wantWhich(t, g, l, from, n, api.Rate{}, api.ErrRange)
	default:
		wantDay(t, g, l, from, to, n)
	}
	e := api.ErrRate
	switch {
	case !rate.Valid(g.Currency, l), !rate.Currency(from), !calendar.Valid(g.Calendar):
		e = api.ErrArg
	case p < 0, p >= g.Calendar.Periods:
		e = api.ErrRange
	default:
		wantPeriod(t, g, l, from, p)
		_, ok := averageOf(g, l, from, p)
		count[missing(ok)]++
		return
	}
	wantAverage(t, g, l, from, p, 0, e)
	wantDays(t, g, l, from, p, nil, e)
	count[e]++
}

// P1, P17.1: every function answers whatever its arguments are, with the first of the errors that the chapter names.
func TestTotality(t *testing.T) {
	r := rand.New(rand.NewSource(9))
	count := map[api.Errno]int{}
	for range 20000 {
		wantAll(t, anyGroup(r), anyRates(r), anyText(r), anyText(r), anyNumber(r), r.Intn(30)-3, count)
	}
	for range 2000 {
		wantAll(t, anyGroup(r), anyRates(r), anyText(r), anyText(r), anyNumber(r), anyNumber(r), count)
	}
	for _, e := range []api.Errno{api.OK, api.ErrArg, api.ErrRange, api.ErrRate} {
		if count[e] < 1000 {
			t.Errorf("%d calls have the error %d", count[e], e)
		}
	}
}

// P1: the zero values of all arguments are answered.
func TestZeroValues(t *testing.T) {
	wantErrors(t, api.Group{}, nil, "", 0, 0, api.ErrArg, api.ErrArg)
	wantErrors(t, api.Group{}, nil, "EUR", 0, 0, api.ErrArg, api.ErrArg)
	wantErrors(t, api.Group{Currency: "EUR"}, nil, "USD", 0, 0, api.ErrRate, api.ErrArg)
	wantErrors(t, sample(), nil, "USD", 0, 0, api.ErrRate, api.ErrRate)
	wantErrors(t, sample(), []api.Rate{{}}, "USD", 0, 0, api.ErrArg, api.ErrArg)
}

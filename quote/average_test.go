package quote_test

import (
	"math"
	"math/rand"
	"slices"
	"testing"

	"tallystone/api"
	"tallystone/quote"
)

// onDays returns spot rates of USD with these values, on consecutive days from one on.
func onDays(first int, values ...int) []api.Rate {
	var l []api.Rate
	for i, value := range values {
		l = append(l, spot("USD", first+i, value))
	}
	return l
}

// P17.1: an average rate of the period is taken, whatever the spot rates are; that of another period or currency is not.
func TestAverageRate(t *testing.T) {
	g, l := sample(), append(example(), average("USD", 8, 1), average("USD", 10, most), average("GBP", 9, 5), average("USD", 119, 3))
	wantAverage(t, g, l, "USD", 9, 920000, api.OK)
	wantAverage(t, g, l, "USD", 8, 1, api.OK)
	wantAverage(t, g, l, "USD", 10, most, api.OK)
	wantAverage(t, g, l, "GBP", 9, 5, api.OK)
	wantAverage(t, g, l, "GBP", 8, 0, api.ErrRate)
	wantAverage(t, g, l, "USD", 11, 0, api.ErrRate)
	wantAverage(t, g, l, "CHF", 9, 0, api.ErrRate)
	wantAverage(t, g, nil, "USD", 9, 0, api.ErrRate)
	for _, value := range []int{1, 920001, most} {
		wantAverage(t, g, append(l, average("USD", 9, value)), "USD", 9, value, api.OK)
		wantDays(t, g, append(l, average("USD", 9, value)), "USD", 9, example(), api.OK)
	}
}

// P17.1: a mean is rounded to the nearest integer, half upward.
func TestRounding(t *testing.T) {
	g := sample()
	first := firstOf(g.Calendar, 4)
	for _, c := range []struct {
		want   int
		values []int
	}{
		{1, []int{1}}, {2, []int{1, 2}}, {2, []int{2, 1}}, {1, []int{1, 1, 2}}, {2, []int{1, 2, 2}}, {3, []int{1, 2, 5}}, {2, []int{1, 1, 1, 3}},
		{1, []int{1, 1, 1, 2}}, {2, []int{1, 2, 1, 2}}, {1200002, []int{1200001, 1200002}}, {most, []int{most, most - 1}}, {most, []int{most}},
		{most/2 + 1, []int{most, 1}}, {most / 2, []int{most - 1, 1}}, {4, []int{2, 3, 4, 5}}, {3, []int{2, 3, 4, 4}}, {1, []int{1, 1, 1, 1, 1, 1}},
		{2, []int{1, 1, 1, 2, 2, 2}}, {1, []int{1, 1, 1, 1, 2, 2}}, {166666666668, []int{1, 1, 1, 1, 1, most}},
	} {
		wantAverage(t, g, onDays(first, c.values...), "USD", 4, c.want, api.OK)
	}
	values := slices.Repeat([]int{most}, 31)
	wantAverage(t, g, onDays(first, values...), "USD", 4, most, api.OK)
	values[7] -= 15
	wantAverage(t, g, onDays(first, values...), "USD", 4, most, api.OK)
	values[8]--
	wantAverage(t, g, onDays(first, values...), "USD", 4, most-1, api.OK)
}

// P17.1: the spot rates of all days of a period belong to it, from the first to the last one, and no others do.
func TestPeriods(t *testing.T) {
	for _, c := range []api.Calendar{
		{Year: 2024, Month: 1, Periods: 24}, {Year: 2024, Month: 2, Periods: 1}, {Year: 1999, Month: 12, Periods: 15}, {Year: 2026, Month: 4, Periods: 120},
		{Year: 1900, Month: 1, Periods: 3}, {Year: 2199, Month: 10, Periods: 3}, {Year: 1969, Month: 11, Periods: 4},
	} {
		g := api.Group{Currency: "EUR", Calendar: c}
		for p := range c.Periods {
			wantBounds(t, g, p)
		}
	}
}

// wantBounds tests whether rates at and next to the bounds of a period belong to it.
func wantBounds(t *testing.T, g api.Group, p int) {
	t.Helper()
	first, last := firstOf(g.Calendar, p), lastOf(g.Calendar, p)
	inside := []api.Rate{spot("USD", first, 5), spot("USD", first+14, 7), spot("USD", last, 900)}
	for _, r := range inside {
		wantAverage(t, g, []api.Rate{r}, "USD", p, r.Value, api.OK)
		wantDays(t, g, []api.Rate{r}, "USD", p, []api.Rate{r}, api.OK)
	}
	wantAverage(t, g, inside, "USD", p, 304, api.OK)
	l := slices.Clone(inside)
	for _, when := range []int{first - 1, last + 1, first - 31, last + 31} {
		if day(1900, 1, 1) <= when && when <= day(2199, 12, 31) {
			outside := spot("USD", when, 3)
			wantAverage(t, g, []api.Rate{outside}, "USD", p, 0, api.ErrRate)
			wantDays(t, g, []api.Rate{outside}, "USD", p, nil, api.OK)
			l = append(l, outside)
		}
	}
	wantAverage(t, g, l, "USD", p, 304, api.OK)
	wantDays(t, g, l, "USD", p, inside, api.OK)
}

// P17.1: the spot rates of a period are in the order of their days, whatever the order of the list is, and are those of one
// currency only.
func TestDaysInOrder(t *testing.T) {
	g := sample()
	first := firstOf(g.Calendar, 1)
	var want, l []api.Rate
	for i := range 29 {
		want = append(want, spot("USD", first+i, 1+(i*7)%29))
	}
	l = append(l, want...)
	for i := range 40 {
		l = append(l, spot("GBP", first+i, 100+i), average("USD", 20+i, 7))
	}
	r := rand.New(rand.NewSource(1))
	for range 50 {
		r.Shuffle(len(l), func(i, j int) { l[i], l[j] = l[j], l[i] })
		wantDays(t, g, l, "USD", 1, want, api.OK)
		wantDays(t, g, l, "USD", 2, nil, api.OK)
		wantDays(t, g, l, "CHF", 1, nil, api.OK)
		wantAverage(t, g, l, "USD", 1, 15, api.OK)
	}
}

// P17.3: a mean lies between the least and the greatest spot rate of the period.
func TestMeanIsBetween(t *testing.T) {
	r, g := rand.New(rand.NewSource(2)), sample()
	for range 2000 {
		var values []int
		for range 1 + r.Intn(28) {
			values = append(values, 1+r.Intn(1+r.Intn(1+r.Intn(most))))
		}
		p := r.Intn(24)
		l := onDays(firstOf(g.Calendar, p), values...)
		n, e := quote.Average(g, l, "USD", p)
		if e != api.OK || n < slices.Min(values) || n > slices.Max(values) {
			t.Errorf("the mean of %v is %d, error %d", values, n, e)
		}
		wantPeriod(t, g, l, "USD", p)
		equal := onDays(firstOf(g.Calendar, p), slices.Repeat(values[:1], len(values))...)
		wantAverage(t, g, equal, "USD", p, values[0], api.OK)
	}
}

// P17.1: a period is one of the calendar, even if there may be a rate of a later one.
func TestLastPeriod(t *testing.T) {
	g := sample()
	l := []api.Rate{average("USD", 23, 5), average("USD", 24, 6), average("USD", 119, 7)}
	wantAverage(t, g, l, "USD", 23, 5, api.OK)
	for _, p := range []int{24, 119, -1, math.MaxInt, math.MinInt, 1<<32 + 23} {
		for _, currency := range []string{"USD", "EUR", "CHF"} {
			wantAverage(t, g, l, currency, p, 0, api.ErrRange)
			wantDays(t, g, l, currency, p, nil, api.ErrRange)
		}
	}
	g.Calendar.Periods = 120
	wantAverage(t, g, l, "USD", 119, 7, api.OK)
}

package quote_test

import (
	"math/rand"
	"slices"
	"testing"

	"tallystone/api"
	"tallystone/quote"
	"tallystone/rate"
	"tallystone/rational"
)

// all returns currencies with rates, that of the group, and one without rates.
func all() []string {
	return []string{"USD", "GBP", "EUR", "CHF", "EUS", "XXX"}
}

// randomRate returns a valid rate for the group currency EUR; many of them lie in the same few months.
func randomRate(r *rand.Rand) api.Rate {
	currency := []string{"USD", "GBP", "CHF", "EUS"}[r.Intn(4)]
	value := 1 + r.Intn(20)
	if r.Intn(2) == 0 {
		value = 1 + r.Intn(most)
	}
	if r.Intn(8) == 0 {
		return average(currency, r.Intn(24), value)
	}
	return spot(currency, day(2024, 9, 20)+r.Intn(130), value)
}

// with returns a list and a rate behind it, or the same list if it has a rate with this key.
func with(l []api.Rate, x api.Rate) []api.Rate {
	if _, ok := rate.Find(l, x.Currency, x.Kind, x.When); ok {
		return l
	}
	return append(slices.Clip(l), x)
}

// randomRates returns a valid list with at most n rates.
func randomRates(r *rand.Rand, n int) []api.Rate {
	var l []api.Rate
	for range n {
		l = with(l, randomRate(r))
	}
	return l
}

// P17.2: the spot rate at a date stays if rates are added that do not matter: those of other currencies, average rates, later
// ones, and those that are too old.
func TestSpotIsIndependent(t *testing.T) {
	r, g := rand.New(rand.NewSource(3)), sample()
	for range 300 {
		l := randomRates(r, r.Intn(25))
		date := day(2024, 9, 20) + r.Intn(150)
		want, ok := whichOf(g, l, "USD", date)
		for range 30 {
			x := randomRate(r)
			if x.Currency == "USD" && x.Kind == api.RateSpot && date-40 <= x.When && x.When <= date {
				x.When = date + 1 + r.Intn(9)
				if r.Intn(2) == 0 {
					x.When = date - 41 - r.Intn(9)
				}
			}
			l = with(l, x)
			wantWhich(t, g, l, "USD", date, want, missing(ok))
		}
	}
}

// P17.2: the average rate for a period stays if rates of other currencies, or spot rates outside of the period, are added; so does
// it if average rates of other periods are.
func TestAverageIsIndependent(t *testing.T) {
	r, g := rand.New(rand.NewSource(4)), sample()
	for range 300 {
		l := randomRates(r, r.Intn(25))
		p := 8 + r.Intn(5)
		want, ok := averageOf(g, l, "USD", p)
		days := daysOf(g, l, "USD", p)
		first, last := firstOf(g.Calendar, p), lastOf(g.Calendar, p)
		for range 30 {
			x := randomRate(r)
			if x.Currency == "USD" && x.Kind == api.RateAverage && x.When == p {
				x.When++
			}
			if x.Currency == "USD" && x.Kind == api.RateSpot && first <= x.When && x.When <= last {
				x.When = []int{first - 1 - r.Intn(5), last + 1 + r.Intn(5)}[r.Intn(2)]
			}
			l = with(l, x)
			wantAverage(t, g, l, "USD", p, want, missing(ok))
			wantDays(t, g, l, "USD", p, days, api.OK)
		}
	}
}

// P8, P17.2: the order of the rates does not matter.
func TestOrderOfRates(t *testing.T) {
	r, g := rand.New(rand.NewSource(5)), sample()
	for range 300 {
		l := randomRates(r, 1+r.Intn(60))
		from, to, date, p := all()[r.Intn(6)], all()[r.Intn(6)], day(2024, 9, 20)+r.Intn(150), 8+r.Intn(5)
		wanted, e := quote.Which(g, l, from, date)
		n, averageError := quote.Average(g, l, from, p)
		days, daysError := quote.Days(g, l, from, p)
		x, crossError := quote.Cross(g, l, from, to, date)
		for range 5 {
			r.Shuffle(len(l), func(i, j int) { l[i], l[j] = l[j], l[i] })
			wantWhich(t, g, l, from, date, wanted, e)
			wantAverage(t, g, l, from, p, n, averageError)
			wantDays(t, g, l, from, p, days, daysError)
			wantCross(t, g, l, from, to, date, rational.Text(x), crossError)
		}
	}
}

// P17.3: a spot rate is a value of the rates of its currency, or 1000000.
func TestSpotIsAValue(t *testing.T) {
	r, g := rand.New(rand.NewSource(6)), sample()
	for range 3000 {
		l := randomRates(r, r.Intn(40))
		currency, date := all()[r.Intn(6)], day(2024, 9, 20)+r.Intn(170)
		n, e := quote.Spot(g, l, currency, date)
		known := slices.ContainsFunc(l, func(x api.Rate) bool { return x.Currency == currency && x.Kind == api.RateSpot && x.Value == n })
		if e == api.OK && !known && (currency != "EUR" || n != unit) {
			t.Errorf("the spot rate of %s at %d is %d", currency, date, n)
		}
	}
}

// P17.4: cross rates from a currency to itself, in the other direction, and over a third currency.
func TestCrossRatesFitTogether(t *testing.T) {
	r, g := rand.New(rand.NewSource(7)), sample()
	found := 0
	for range 1500 {
		l := randomRates(r, 60)
		date := day(2024, 9, 20) + r.Intn(150)
		cross := func(from, to string) (rational.Rat, bool) {
			x, e := quote.Cross(g, l, from, to, date)
			return x, e == api.OK
		}
		one, _ := rational.Of(1, 1)
		a, b, c := all()[r.Intn(5)], all()[r.Intn(5)], all()[r.Intn(5)]
		self, ok := cross(a, a)
		if ok && rational.Cmp(self, one) != 0 {
			t.Errorf("from %s to itself: %s", a, rational.Text(self))
		}
		ab, toB := cross(a, b)
		ba, back := cross(b, a)
		bc, toC := cross(b, c)
		ac, direct := cross(a, c)
		if toB != back || toB && rational.Cmp(rational.Mul(ab, ba), one) != 0 {
			t.Errorf("%s, %s, %t and back %s, %t", a, b, toB, rational.Text(ba), back)
		}
		if toB && toC && (!direct || rational.Cmp(rational.Mul(ab, bc), ac) != 0) {
			t.Errorf("%s, %s, %s: %s times %s is not %s", a, b, c, rational.Text(ab), rational.Text(bc), rational.Text(ac))
		}
		if toB && toC {
			found++
		}
	}
	if found < 500 {
		t.Errorf("only %d cross rates over a third currency", found)
	}
}

// P17.5: the spot rate at a date is the same at each date from that of its rate on.
func TestLaterDates(t *testing.T) {
	r, g := rand.New(rand.NewSource(8)), sample()
	for range 1000 {
		l := randomRates(r, 1+r.Intn(20))
		date := day(2024, 9, 20) + r.Intn(150)
		x, e := quote.Which(g, l, "USD", date)
		if e != api.OK {
			continue
		}
		for d := x.When; d <= date; d++ {
			wantWhich(t, g, l, "USD", d, x, api.OK)
		}
		if x.When > date || x.When < date-40 || !slices.Contains(l, x) {
			t.Errorf("the rate at %d is %v", date, x)
		}
	}
}

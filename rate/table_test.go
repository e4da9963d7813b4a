package rate_test

import (
	"math/rand"
	"slices"
	"testing"

	"tallystone/api"
	"tallystone/rate"
)

// P16.2: a rate that is set is the current one for its key, and those of all other keys stay.
func TestCorrections(t *testing.T) {
	r := rand.New(rand.NewSource(1))
	for range 20 {
		x, history := newTable(t, "EUR"), []api.Rate(nil)
		for range 60 {
			old, set := x.List(), randomRate(r)
			wantSet(t, x, set, api.OK)
			history = append(history, set)
			wantGet(t, x, set, set.Value, true)
			for _, o := range old {
				if !sameKey(o, set) {
					wantGet(t, x, o, o.Value, true)
				}
			}
			wantTable(t, x, history)
		}
	}
}

// P16.2: a key is its currency, its kind and its number together: rates that differ in one of these only are different ones.
func TestKeys(t *testing.T) {
	var l []api.Rate
	for i, currency := range []string{"USD", "USE", "VSD", "UTD"} {
		for kind := 1; kind <= 2; kind++ {
			for when := range 3 {
				l = append(l, api.Rate{Currency: currency, Kind: kind, When: when, Value: 100*i + 10*kind + when})
			}
		}
	}
	x := newTable(t, "EUR", l...)
	wantTable(t, x, l)
	if n := len(x.List()); n != len(l) {
		t.Errorf("%d rates, not %d", n, len(l))
	}
	for _, r := range []api.Rate{{Currency: "USD", Kind: 1, When: 3}, {Currency: "USF", Kind: 1, When: 1}, {Currency: "USD", Kind: 3, When: 1}, {Currency: "EUR", Kind: 1, When: 1}, {}} {
		wantGet(t, x, r, 0, false)
	}
}

// P16.2: the same rate can be set again, and a correction can be taken back; the history has all of it.
func TestSameRateAgain(t *testing.T) {
	a := api.Rate{Currency: "USD", Kind: api.RateAverage, When: 119, Value: most}
	b := a
	b.Value = 1
	wantTable(t, newTable(t, "EUR", a, a, b, a, a), []api.Rate{a, a, b, a, a})
}

// P16.3: the order is that of the currencies, then spot rates before average ones, then that of their numbers.
func TestOrder(t *testing.T) {
	sorted := []api.Rate{
		{Currency: "AAZ", Kind: api.RateAverage, When: 119, Value: 1},
		{Currency: "ABA", Kind: api.RateSpot, When: lastDay(), Value: 9},
		{Currency: "BAA", Kind: api.RateSpot, When: firstDay(), Value: most},
		{Currency: "BAA", Kind: api.RateSpot, When: -1, Value: 5},
		{Currency: "BAA", Kind: api.RateSpot, When: 0, Value: 4},
		{Currency: "BAA", Kind: api.RateSpot, When: 10, Value: 3},
		{Currency: "BAA", Kind: api.RateSpot, When: lastDay(), Value: 2},
		{Currency: "BAA", Kind: api.RateAverage, When: 0, Value: 8},
		{Currency: "BAA", Kind: api.RateAverage, When: 9, Value: 7},
		{Currency: "BAA", Kind: api.RateAverage, When: 10, Value: 6},
		{Currency: "ZAA", Kind: api.RateSpot, When: firstDay(), Value: 1},
	}
	r := rand.New(rand.NewSource(2))
	for range 200 {
		l := slices.Clone(sorted)
		r.Shuffle(len(l), func(i, j int) { l[i], l[j] = l[j], l[i] })
		wantRates(t, "rates in another order", newTable(t, "EUR", l...).List(), sorted)
		x, e := rate.Of("EUR", l)
		if e != api.OK {
			t.Fatal(e)
		}
		wantRates(t, "the rates of a list in another order", x.List(), sorted)
		wantRates(t, "the history of a list", x.History(), l)
	}
}

// P16.3: the list of current rates is valid and in order; setting them in another order leads to the same list.
func TestListIsInOrder(t *testing.T) {
	r := rand.New(rand.NewSource(3))
	for n := range 60 {
		l := newTable(t, "EUR", randomRates(r, n)...).List()
		if !rate.Valid("EUR", l) || !slices.IsSortedFunc(l, before) {
			t.Errorf("the list %v is not valid or not in order", l)
		}
		other := slices.Clone(l)
		r.Shuffle(len(l), func(i, j int) { other[i], other[j] = other[j], other[i] })
		wantRates(t, "another order", newTable(t, "EUR", other...).List(), l)
	}
}

// P16.4: a table of the current rates has these rates, and a table in which a history is set again is the same table.
func TestRebuilding(t *testing.T) {
	r := rand.New(rand.NewSource(4))
	for n := range 60 {
		x := newTable(t, "EUR", randomRates(r, n)...)
		y, e := rate.Of("EUR", x.List())
		if e != api.OK {
			t.Fatal(e)
		}
		wantTable(t, y, x.List())
		wantRates(t, "the rates of a list", y.List(), x.List())
		wantTable(t, newTable(t, "EUR", x.History()...), x.History())
		next := randomRate(r)
		wantSet(t, x, next, api.OK)
		wantSet(t, y, next, api.OK)
		wantRates(t, "the rates afterwards", y.List(), x.List())
	}
}

// P16.4: the greatest table is made again from its history, and is full then, too.
func TestRebuildingOfAGreatTable(t *testing.T) {
	l := thousand()
	x, e := rate.Of("EUR", l)
	if e != api.OK {
		t.Fatal(e)
	}
	history := slices.Clone(l)
	for i := len(l); i < settings; i++ {
		r := l[i*7%len(l)]
		r.Value = i
		history = append(history, r)
		wantSet(t, x, r, api.OK)
	}
	y := newTable(t, "EUR", x.History()...)
	wantRates(t, "the history", y.History(), history)
	wantRates(t, "the current rates", y.List(), currentOf(history))
	wantSet(t, y, l[0], api.ErrLimit)
	z, e := rate.Of("EUR", y.List())
	if e != api.OK {
		t.Fatal(e)
	}
	wantRates(t, "the rates of a list", z.List(), x.List())
	wantSet(t, z, l[0], api.OK)
}

package rate_test

import (
	"math/rand"
	"slices"
	"testing"

	"tallystone/api"
	"tallystone/rate"
)

// spoil overwrites a list, also behind its end.
func spoil(l []api.Rate) {
	l = l[:cap(l)]
	for i := range l {
		l[i] = api.Rate{Currency: "ZZZ", Kind: api.RateSpot, When: 77, Value: 77}
	}
}

// P16.5: what happens to a copy does not change the table, and what happens to the table does not change the copy.
func TestClone(t *testing.T) {
	r := rand.New(rand.NewSource(5))
	for n := range 40 {
		history := randomRates(r, n)
		x := newTable(t, "EUR", history...)
		y := x.Clone()
		wantTable(t, y, history)
		one, two := slices.Clone(history), slices.Clone(history)
		for range 10 {
			a, b := randomRate(r), randomRate(r)
			one, two = append(one, a), append(two, b)
			wantSet(t, x, a, api.OK)
			wantSet(t, y, b, api.OK)
			wantTable(t, x, one)
			wantTable(t, y, two)
		}
		wantTable(t, y.Clone(), two)
	}
}

// P16.5: several copies go their own ways, also those of copies.
func TestClonesOfClones(t *testing.T) {
	l := thousand()[:12]
	x := newTable(t, "EUR", l...)
	copies := []*rate.Table{x, x.Clone(), x.Clone()}
	copies = append(copies, copies[1].Clone(), x.Clone().Clone())
	for i, c := range copies {
		r := l[3]
		r.Value = 1000 + i
		wantSet(t, c, r, api.OK)
	}
	for i, c := range copies {
		r := l[3]
		r.Value = 1000 + i
		wantTable(t, c, append(slices.Clone(l), r))
	}
}

// P16.1: a copy has the same group currency.
func TestCloneGoesOn(t *testing.T) {
	for _, group := range []string{"EUR", "USD"} {
		x := newTable(t, group).Clone().Clone()
		for _, currency := range []string{"EUR", "USD"} {
			want := api.OK
			if currency == group {
				want = api.ErrArg
			}
			wantSet(t, x, api.Rate{Currency: currency, Kind: api.RateSpot, When: 1, Value: 1}, want)
		}
	}
}

// P16.5: a list of which a table was made stays as it is, and can change afterwards.
func TestListIsKeptAsCopy(t *testing.T) {
	l := thousand()[:30]
	given := slices.Clone(l)
	x, e := rate.Of("EUR", given)
	if e != api.OK {
		t.Fatal(e)
	}
	rate.Valid("EUR", given)
	rate.Find(given, "USD", 1, 1)
	wantRates(t, "the list", given, l)
	spoil(given)
	wantTable(t, x, l)
}

// P16.5: what a table returns is a copy each time.
func TestResultsAreCopies(t *testing.T) {
	l := thousand()[:30]
	x := newTable(t, "EUR", l...)
	sorted := x.List()
	spoil(x.List())
	spoil(x.History())
	wantTable(t, x, l)
	one, two := x.List(), x.History()
	next := l[7]
	next.Value = 9999
	wantSet(t, x, next, api.OK)
	wantRates(t, "earlier rates", one, sorted)
	wantRates(t, "an earlier history", two, l)
	spoil(one)
	wantRates(t, "an earlier history", two, l)
	wantTable(t, x, append(slices.Clone(l), next))
}

// P16.5: the tables of several groups are independent of each other.
func TestTwoTables(t *testing.T) {
	l := thousand()[:10]
	a, b := newTable(t, "EUR", l...), newTable(t, "CHF", l...)
	r := l[0]
	r.Value = 5555
	wantSet(t, a, r, api.OK)
	wantTable(t, a, append(slices.Clone(l), r))
	wantTable(t, b, l)
}

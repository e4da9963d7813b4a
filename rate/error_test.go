package rate_test

import (
	"math"
	"slices"
	"testing"

	"tallystone/api"
	"tallystone/rate"
)

// P16.1: which rates are valid, by each of their fields.
func TestValidRates(t *testing.T) {
	good := []api.Rate{{Currency: "USD", Kind: api.RateSpot, When: 20000, Value: 920000}, {Currency: "USD", Kind: api.RateAverage, When: 7, Value: 920000}}
	for _, r := range good {
		for _, group := range []string{"EUR", "USE", "UTD", "AAA", "ZZZ"} {
			wantValid(t, group, r)
		}
		for _, currency := range texts() {
			x := r
			x.Currency = currency
			wantValid(t, "EUR", x)
			wantValid(t, currency, x)
		}
		for _, n := range extremes() {
			x, y, z := r, r, r
			x.Kind, y.When, z.Value = n, n, n
			wantValid(t, "EUR", x)
			wantValid(t, "EUR", y)
			wantValid(t, "EUR", z)
		}
	}
}

// wantValid tests whether a rate, alone and behind another one, is valid for a group currency, and can be set.
func wantValid(t *testing.T, group string, r api.Rate) {
	t.Helper()
	want := isCurrency(group) && isRate(group, r)
	if rate.Valid(group, []api.Rate{r}) != want {
		t.Errorf("%v is valid for %q: %t", r, group, !want)
	}
	other := api.Rate{Currency: "QQQ", Kind: api.RateSpot, When: 1, Value: 1}
	if rate.Valid(group, []api.Rate{other, r}) != want {
		t.Errorf("%v is valid for %q behind another one: %t", r, group, !want)
	}
	x, e := rate.Of(group, []api.Rate{r})
	if want != (e == api.OK) || want != (x != nil) || e != api.OK && e != api.ErrArg {
		t.Errorf("the error of a table of %v for %q is %d", r, group, e)
	}
	if !isCurrency(group) {
		return
	}
	y := newTable(t, group)
	if !want {
		wantSet(t, y, r, api.ErrArg)
		wantTable(t, y, nil)
		wantGet(t, y, r, 0, false)
		return
	}
	wantSet(t, y, r, api.OK)
	wantTable(t, y, []api.Rate{r})
	wantTable(t, x, []api.Rate{r})
}

// P16.1: the limits of the numbers of rates are themselves allowed.
func TestBounds(t *testing.T) {
	for _, r := range []api.Rate{
		{Currency: "USD", Kind: 1, When: -25567, Value: 1},
		{Currency: "USD", Kind: 1, When: 84005, Value: 1000000000000},
		{Currency: "USD", Kind: 2, When: 0, Value: 1000000000000},
		{Currency: "USD", Kind: 2, When: 119, Value: 1},
	} {
		wantSet(t, newTable(t, "EUR"), r, api.OK)
	}
	for _, r := range []api.Rate{
		{Currency: "USD", Kind: 1, When: -25568, Value: 1},
		{Currency: "USD", Kind: 1, When: 84006, Value: 1},
		{Currency: "USD", Kind: 2, When: -1, Value: 1},
		{Currency: "USD", Kind: 2, When: 120, Value: 1},
		{Currency: "USD", Kind: 0, When: 1, Value: 1},
		{Currency: "USD", Kind: 3, When: 1, Value: 1},
		{Currency: "USD", Kind: 1, When: 1, Value: 1000000000001},
		{Currency: "USD", Kind: 1, When: 1, Value: 0},
		{Currency: "USD", Kind: 1, When: 1, Value: -1},
	} {
		wantSet(t, newTable(t, "EUR"), r, api.ErrArg)
	}
}

// P16.1: a list is not valid if two of its keys are the same, wherever they stand and whatever the values are.
func TestSameKeys(t *testing.T) {
	l := thousand()[:20]
	for i := range l {
		for j := range l {
			if i == j {
				continue
			}
			bad := slices.Clone(l)
			bad[i] = l[j]
			wantNoTable(t, "EUR", bad)
			bad[i].Value++
			wantNoTable(t, "EUR", bad)
		}
	}
}

func wantNoTable(t *testing.T, group string, l []api.Rate) {
	t.Helper()
	if rate.Valid(group, l) {
		t.Errorf("%v is valid for %q", l, group)
	}
	if x, e := rate.Of(group, l); x != nil || e != api.ErrArg {
		t.Errorf("the error of %v for %q is %d", l, group, e)
	}
}

// P16.1: a list may have 1000 rates, in any order, and no more.
func TestLongLists(t *testing.T) {
	l := thousand()
	slices.Reverse(l)
	if !rate.Valid("EUR", l) || rate.Valid("GBP", l) || rate.Valid("USD", l) || rate.Valid("eur", l) {
		t.Error("1000 rates")
	}
	x, e := rate.Of("EUR", l)
	if e != api.OK {
		t.Fatal(e)
	}
	wantTable(t, x, l)
	more := append(slices.Clone(l), api.Rate{Currency: "CHF", Kind: api.RateSpot, When: 7, Value: 7})
	wantNoTable(t, "EUR", more)
	wantNoTable(t, "EUR", append(more, more...))
	if !rate.Valid("EUR", more[1:]) {
		t.Error("the last 1000 rates")
	}
	bad := slices.Clone(l)
	bad[999].Value = 0
	wantNoTable(t, "EUR", bad)
	bad[999] = l[0]
	wantNoTable(t, "EUR", bad)
}

// P16.1: with 1000 current rates, only these can be corrected; a rate that is not valid is refused as such.
func TestManyKeys(t *testing.T) {
	l := thousand()
	x, history := newTable(t, "EUR", l[:999]...), slices.Clone(l[:999])
	wantSet(t, x, l[5], api.OK)
	wantSet(t, x, l[999], api.OK)
	history = append(history, l[5], l[999])
	foreign := []api.Rate{
		{Currency: "CHF", Kind: l[0].Kind, When: l[0].When, Value: l[0].Value},
		{Currency: l[0].Currency, Kind: api.RateSpot, When: 500, Value: 1},
		{Currency: "GBP", Kind: api.RateAverage, When: 1, Value: 1},
	}
	for _, r := range foreign {
		wantSet(t, x, r, api.ErrLimit)
		wantSet(t, x.Clone(), r, api.ErrLimit)
		wantGet(t, x, r, 0, false)
		r.Value = 0
		wantSet(t, x, r, api.ErrArg)
	}
	wantTable(t, x, history)
	for _, i := range []int{0, 500, 999} {
		r := l[i]
		r.Value += 70
		wantSet(t, x, r, api.OK)
		history = append(history, r)
	}
	wantTable(t, x, history)
}

// P16.1: 5000 rates can be set and no more, whether or not they are corrections.
func TestLongHistory(t *testing.T) {
	for _, different := range []int{1, 10, 999} {
		l, x := thousand(), newTable(t, "EUR")
		var history []api.Rate
		for i := range settings {
			r := l[i%different]
			r.Value = 1 + i
			wantSet(t, x, r, api.OK)
			history = append(history, r)
		}
		for _, r := range []api.Rate{l[0], l[different], history[settings-1]} {
			wantSet(t, x, r, api.ErrLimit)
			wantSet(t, x.Clone(), r, api.ErrLimit)
			r.When = math.MaxInt
			wantSet(t, x, r, api.ErrArg)
		}
		wantRates(t, "the history", x.History(), history)
		wantRates(t, "the current rates", x.List(), currentOf(history))
	}
}

// P16.1: with one rate less than the most, one more can be set.
func TestLastSetting(t *testing.T) {
	l, x := thousand(), newTable(t, "EUR")
	for i := range settings - 1 {
		wantSet(t, x, l[i%3], api.OK)
	}
	y := x.Clone()
	wantSet(t, x, l[0], api.OK)
	wantSet(t, x, l[0], api.ErrLimit)
	wantSet(t, y, l[9], api.OK)
	wantSet(t, y, l[9], api.ErrLimit)
	if n := len(y.List()); n != 4 {
		t.Errorf("%d rates", n)
	}
}

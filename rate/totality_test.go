package rate_test

import (
	"math/rand"
	"slices"
	"testing"

	"tallystone/api"
	"tallystone/rate"
)

func anyNumber(r *rand.Rand) int {
	l := extremes()
	return l[r.Intn(len(l))]
}

func anyText(r *rand.Rand) string {
	l := texts()
	return l[r.Intn(len(l))]
}

// anyRate returns a rate of which some fields may be anything.
func anyRate(r *rand.Rand) api.Rate {
	x := randomRate(r)
	switch r.Intn(8) {
	case 0:
		x.Currency = anyText(r)
	case 1:
		x.Kind = anyNumber(r)
	case 2:
		x.When = anyNumber(r)
	case 3:
		x.Value = anyNumber(r)
	}
	return x
}

// P1, P16.1: every function answers whatever its arguments are, and in every state, until the table is full and beyond.
func TestTotality(t *testing.T) {
	for _, different := range []int{5, 500, 2000} {
		r := rand.New(rand.NewSource(6))
		x, history, current := newTable(t, "EUR"), []api.Rate(nil), map[api.Rate]int{}
		errors := map[api.Errno]int{}
		for range 15000 {
			a := anyRate(r)
			if isRate("EUR", a) && a.Kind == api.RateSpot {
				a.When = r.Intn(different)
			}
			want := errorOf(current, history, a)
			wantSet(t, x, a, want)
			errors[want]++
			if want == api.OK {
				history = append(history, a)
				current[keyOf(a)] = a.Value
			}
			value, found := current[keyOf(a)]
			wantGet(t, x, a, value, found)
		}
		wantRates(t, "the history", x.History(), history)
		wantRates(t, "the current rates", x.List(), currentOf(history))
		if len(history) != settings || errors[api.ErrArg] < 1000 || errors[api.ErrLimit] < 1000 || len(errors) != 3 {
			t.Errorf("the errors are %v", errors)
		}
	}
}

// P1, P16.1: in every state, a table tells the value of the last rate in its history with a key.
func TestAnyKeys(t *testing.T) {
	r := rand.New(rand.NewSource(10))
	for n := range 100 {
		history := randomRates(r, n)
		x := newTable(t, "EUR", history...)
		for range 50 {
			wantCurrent(t, x, history, anyRate(r))
		}
	}
}

// wantCurrent tests what a table tells about a key: the value of the last rate in the history with this key.
func wantCurrent(t *testing.T, x *rate.Table, history []api.Rate, k api.Rate) {
	t.Helper()
	value, found := 0, false
	for _, r := range history {
		if sameKey(r, k) {
			value, found = r.Value, true
		}
	}
	wantGet(t, x, k, value, found)
	if n, ok := rate.Find(x.List(), k.Currency, k.Kind, k.When); n != value || ok != found {
		t.Errorf("Find(%v) is %d, %t", k, n, ok)
	}
}

// P1, P16.1: lists that may be anything, with any string as the group currency.
func TestAnyLists(t *testing.T) {
	r := rand.New(rand.NewSource(7))
	valid := 0
	for range 20000 {
		group, l := "EUR", []api.Rate(nil)
		if r.Intn(3) == 0 {
			group = anyText(r)
		}
		for range r.Intn(6) {
			l = append(l, anyRate(r))
		}
		if !isList(group, l) {
			wantNoTable(t, group, l)
			continue
		}
		valid++
		if !rate.Valid(group, l) {
			t.Errorf("%v is not valid for %q", l, group)
		}
		x, e := rate.Of(group, l)
		if e != api.OK || x == nil {
			t.Fatalf("the error of %v is %d", l, e)
		}
		wantTable(t, x, l)
	}
	if valid < 2000 {
		t.Errorf("only %d lists were valid", valid)
	}
}

// P1, P16.1: any lists are searched as another implementation searches them.
func TestFindInAnyLists(t *testing.T) {
	r := rand.New(rand.NewSource(8))
	for range 5000 {
		var l []api.Rate
		for range r.Intn(40) {
			l = append(l, anyRate(r))
		}
		k, value := anyRate(r), 0
		i := slices.IndexFunc(l, func(x api.Rate) bool { return sameKey(x, k) })
		if i >= 0 {
			value = l[i].Value
		}
		if n, ok := rate.Find(l, k.Currency, k.Kind, k.When); n != value || ok != (i >= 0) {
			t.Errorf("Find(%v, %v) is %d, %t", l, k, n, ok)
		}
	}
}

// P1, P16.1: without a table nothing can be set, and nothing is there.
func TestNil(t *testing.T) {
	var x *rate.Table
	r := rand.New(rand.NewSource(9))
	for range 1000 {
		a := anyRate(r)
		wantSet(t, x, a, api.ErrState)
		wantGet(t, x, a, 0, false)
	}
	wantRates(t, "no rates", x.List(), nil)
	wantRates(t, "no history", x.History(), nil)
	if x.Clone() != nil {
		t.Error("a copy of no table")
	}
}

// P1: no rate is valid for a table that New did not make, as its group has no currency.
func TestZeroValue(t *testing.T) {
	var zero rate.Table
	for _, x := range []*rate.Table{&zero, zero.Clone()} {
		for _, r := range thousand()[100:140] {
			wantSet(t, x, r, api.ErrArg)
			wantGet(t, x, r, 0, false)
		}
		wantTable(t, x, nil)
	}
}

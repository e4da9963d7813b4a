package mapping_test

import (
	"math"
	"math/rand"
	"slices"
	"testing"

	"tallystone/api"
	"tallystone/date"
	"tallystone/mapping"
)

// wantSame tests that two entities show all accounts and balances of the first one on the same accounts of the group, each
// on a day of its own.
func wantSame(t *testing.T, a api.Entity, dayOfA int, b api.Entity, dayOfB int, balances []api.Balance) {
	t.Helper()
	for _, account := range a.Chart {
		to, err := mapping.At(a, account.Code, dayOfA)
		other, otherErr := mapping.At(b, account.Code, dayOfB)
		if to != other || err != otherErr {
			t.Errorf("At(%v, %d, %d): %d, error %d, but At(%v, %d): %d, error %d", a.Links, account.Code, dayOfA, to, err, b.Links, dayOfB, other, otherErr)
		}
	}
	moved, err := mapping.Move(a, balances, dayOfA)
	other, otherErr := mapping.Move(b, balances, dayOfB)
	if !slices.Equal(moved, other) || err != otherErr {
		t.Errorf("Move(%v, %v, %d): %v, error %d, but Move(%v, %d): %v, error %d", a.Links, balances, dayOfA, moved, err, b.Links, dayOfB, other, otherErr)
	}
}

// P9.6: links that begin after a date change nothing at it, wherever they stand; those that begin on it do.
func TestLaterLinks(t *testing.T) {
	r := rand.New(rand.NewSource(8))
	for range 2000 {
		e, _ := randomMapping(r)
		if r.Intn(4) == 0 {
			e = randomEntity(r)
		}
		balances := randomBalances(r, e, 9)
		for _, day := range []int{date.Min, -1, 0, 49, 50, date.Max - 1, date.Max} {
			earlier, later := clone(e), clone(e)
			earlier.Links = slices.DeleteFunc(earlier.Links, func(l api.Link) bool { return l.Since > day })
			wantSame(t, e, day, earlier, day, balances)
			for _, a := range e.Chart {
				for _, since := range []int{day + 1, date.Max + 1, math.MaxInt} {
					later.Links = slices.Insert(later.Links, r.Intn(len(later.Links)+1), api.Link{From: a.Code, To: 777777, Since: since})
				}
			}
			wantSame(t, e, day, later, day, balances)
		}
	}
	e := sample()
	e.Links = append(e.Links, api.Link{From: 100, To: 2000, Since: 95}, api.Link{From: 120, To: 2000, Since: 95})
	wantSame(t, sample(), 94, e, 94, balancesOf(100, 1, 110, 2))
	wantAt(t, e, 100, 94, 1000, api.OK)
	wantAt(t, e, 100, 95, 2000, api.OK)
	wantAt(t, e, 120, 94, 0, api.ErrMapping)
	wantAt(t, e, 120, 95, 2000, api.OK)
}

// P9.6: nothing changes between two neighbouring elements of Dates, before the first one, and after the last one.
func TestBetweenDates(t *testing.T) {
	r := rand.New(rand.NewSource(9))
	for range 1000 {
		e, _ := randomMapping(r)
		if r.Intn(4) == 0 {
			e = randomEntity(r)
		}
		balances := randomBalances(r, e, 9)
		dates := slices.DeleteFunc(mapping.Dates(e), func(day int) bool { return !date.Valid(day) })
		starts := slices.Compact(append([]int{date.Min}, dates...))
		for i, start := range starts {
			end := date.Max + 1
			if i < len(starts)-1 {
				end = starts[i+1]
			}
			for _, day := range []int{start, start + (end-start)/2, start + r.Intn(end-start), end - 1} {
				wantSame(t, e, start, e, day, balances)
			}
		}
	}
	dates := mapping.Dates(sample())
	for i, day := range dates[1:] {
		for between := dates[i]; between < day; between += 1 + (day-dates[i])/500 {
			wantSame(t, sample(), dates[i], sample(), between, balancesOf(100, 1, 110, 2))
		}
	}
}

// P9.7: if the mapping is valid, its links in any other order say the same.
func TestOrderOfLinks(t *testing.T) {
	r := rand.New(rand.NewSource(10))
	for range 1000 {
		e, c := randomMapping(r)
		balances := randomBalances(r, e, 9)
		for n := range 4 {
			other := clone(e)
			if n == 0 {
				slices.Reverse(other.Links)
			} else {
				r.Shuffle(len(other.Links), func(i, j int) { other.Links[i], other.Links[j] = other.Links[j], other.Links[i] })
			}
			if !mapping.Valid(other, c) || !slices.Equal(mapping.Dates(other), mapping.Dates(e)) {
				t.Errorf("%v is other than %v", other, e)
			}
			for _, day := range append(mapping.Dates(e), date.Min-1, date.Min, -1, 0, 2, 49, date.Max, date.Max+1) {
				wantSame(t, e, day, other, day, balances)
			}
		}
	}
}

// P9.7: all orders of the links of one account.
func TestAllOrdersOfLinks(t *testing.T) {
	links := []api.Link{{From: 100, To: 1000, Since: 10}, {From: 100, To: 1100, Since: 20}, {From: 100, To: 1000, Since: 30}, {From: 110, To: 1100, Since: 15}}
	for n := range 4 * 3 * 2 {
		rest, e := slices.Clone(links), api.Entity{Chart: sample().Chart}
		for i := range links {
			k := n % (4 - i)
			n /= 4 - i
			e.Links = append(e.Links, rest[k])
			rest = slices.Delete(rest, k, k+1)
		}
		if !mapping.Valid(e, group()) {
			t.Errorf("%v is not valid", e.Links)
		}
		for _, x := range []struct {
			day, want int
			e         api.Errno
		}{{9, 0, api.ErrMapping}, {10, 1000, api.OK}, {19, 1000, api.OK}, {20, 1100, api.OK}, {29, 1100, api.OK}, {30, 1000, api.OK}} {
			wantAt(t, e, 100, x.day, x.want, x.e)
		}
	}
}

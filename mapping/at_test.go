package mapping_test

import (
	"math"
	"math/rand"
	"slices"
	"testing"

	"tallystone/api"
	"tallystone/chart"
	"tallystone/date"
	"tallystone/mapping"
)

// wantAt tests the account of the group of an account at a date.
func wantAt(t *testing.T, e api.Entity, code, day, want int, wantError api.Errno) {
	t.Helper()
	if to, err := mapping.At(e, code, day); to != want || err != wantError {
		t.Errorf("At(%d, %d): %d, error %d, not %d, error %d", code, day, to, err, want, wantError)
	}
}

// P9.2: the example, the days before, on and after those on which links begin, and the first and the last date.
func TestAt(t *testing.T) {
	e := sample()
	for _, x := range []struct{ code, day, want int }{
		{100, 0, 1000}, {100, 1, 1000}, {100, 49, 1000}, {100, 50, 1100}, {100, 51, 1100}, {100, 89, 1100}, {100, 90, 1000}, {100, date.Max, 1000},
		{110, 10, 1100}, {110, 59, 1100}, {110, 60, 1000}, {200, -7, 2000}, {200, 0, 2000}, {300, 50, 3000}, {300, date.Max, 3000},
		{400, date.Min, 4000}, {400, -1, 4000}, {400, date.Max, 4000}, {500, date.Max, 5100},
	} {
		wantAt(t, e, x.code, x.day, x.want, api.OK)
	}
}

// P9.2: the errors, and their order: a day that is no date before an account that is not there, and this before a link.
func TestErrorsOfAt(t *testing.T) {
	e := sample()
	for _, x := range []struct{ code, day int }{{100, -1}, {100, date.Min}, {110, 9}, {120, 0}, {120, date.Max}, {200, -8}, {300, 49}, {500, date.Max - 1}} {
		wantAt(t, e, x.code, x.day, 0, api.ErrMapping)
	}
	for _, code := range []int{0, -100, 99, 101, 1000, 1100, 99999, 100000, math.MinInt, math.MaxInt, 1<<32 + 100} {
		for _, day := range []int{date.Min, -1, 0, 50, date.Max} {
			wantAt(t, e, code, day, 0, api.ErrNone)
		}
	}
	for _, day := range []int{date.Min - 1, date.Max + 1, math.MinInt, math.MaxInt, 1 << 32, 1<<32 + 50, -1 << 32} {
		for _, code := range []int{100, 120, 400, 500, 0, 99, math.MinInt, math.MaxInt} {
			wantAt(t, e, code, day, 0, api.ErrRange)
		}
		wantAt(t, api.Entity{}, 0, day, 0, api.ErrRange)
	}
	wantAt(t, api.Entity{}, 0, 0, 0, api.ErrNone)
	wantAt(t, api.Entity{Links: e.Links}, 100, 50, 0, api.ErrNone)
	wantAt(t, api.Entity{Chart: e.Chart}, 100, 50, 0, api.ErrMapping)
}

// P9.2: of several links that begin together, the first one counts, wherever the others stand.
func TestAtOfEqualLinks(t *testing.T) {
	e := unordered()
	wantAt(t, e, 30, 5, 1, api.OK)
	wantAt(t, e, 30, 4, 4, api.OK)
	slices.Reverse(e.Links)
	wantAt(t, e, 30, 5, 11, api.OK)
	wantAt(t, e, 30, 4, 4, api.OK)
	for i := range 6 {
		e := api.Entity{Chart: []api.Account{{Code: 1}}, Links: []api.Link{{From: 1, To: 90, Since: 3}, {From: 2, To: 91, Since: 8}, {From: 1, To: 92, Since: 9}}}
		for j := range 6 {
			e.Links = append(e.Links, api.Link{From: 1, To: 10 + j, Since: 7})
			if j == i {
				e.Links = append(e.Links, api.Link{From: 1, To: 93, Since: 6}, api.Link{From: 1, To: 94})
			}
		}
		wantAt(t, e, 1, 8, 10, api.OK)
		e.Links = append([]api.Link{{From: 1, To: 50 + i, Since: 7}}, e.Links...)
		wantAt(t, e, 1, 8, 50+i, api.OK)
		wantAt(t, e, 1, 6, 93, api.OK)
		wantAt(t, e, 1, 9, 92, api.OK)
	}
}

// P9.2: entities whose mapping is not valid: links that begin on days that are no dates, or lead to accounts that are none.
func TestAtOfInvalidMappings(t *testing.T) {
	e := unordered()
	for _, x := range []struct {
		code, day, want int
		e               api.Errno
	}{
		{10, date.Min, -6, api.OK}, {10, date.Max, -6, api.OK}, {10, date.Min - 1, 0, api.ErrRange}, {10, date.Max + 1, 0, api.ErrRange},
		{0, 0, 0, api.OK}, {0, -1, 0, api.ErrMapping}, {-5, -1, math.MinInt, api.OK}, {-5, 0, 9, api.OK}, {-5, math.MinInt, 0, api.ErrRange},
		{math.MaxInt, date.Max, 0, api.ErrMapping}, {math.MaxInt, math.MaxInt, 0, api.ErrRange}, {math.MinInt, 3, math.MaxInt, api.OK}, {math.MinInt, 2, 0, api.ErrMapping},
		{20, 5, 0, api.ErrNone}, {7, 0, 0, api.ErrMapping}, {8, 0, 0, api.ErrNone},
	} {
		wantAt(t, e, x.code, x.day, x.want, x.e)
	}
	long := many(1000)
	for day := range 1000 {
		long.Links[day].To = day + 7
	}
	for day := range 1000 {
		wantAt(t, long, 1, day, day+7, api.OK)
	}
	wantAt(t, long, 1, date.Max, 1006, api.OK)
}

// P9.2, P1: any entities, compared with another implementation.
func TestAtOfRandomEntities(t *testing.T) {
	r := rand.New(rand.NewSource(3))
	found := 0
	for range 4000 {
		e := randomEntity(r)
		if r.Intn(3) == 0 {
			e, _ = randomMapping(r)
		}
		before := clone(e)
		codes, days := []int{0, 1, 2, 3, 4, 5, math.MinInt, math.MaxInt}, []int{date.Min - 1, date.Min, -1, 0, 3, 5, 49, 50, date.Max, date.Max + 1}
		for _, a := range e.Chart {
			codes = append(codes, a.Code)
		}
		for _, code := range codes {
			for _, day := range days {
				want, wantError := at(e, code, day)
				wantAt(t, e, code, day, want, wantError)
				if wantError == api.OK {
					found++
				}
			}
		}
		if !equal(e, before) {
			t.Errorf("At changed %v to %v", before, e)
		}
	}
	if found < 10000 {
		t.Errorf("only %d accounts of the group", found)
	}
}

// P9.2: if the mapping is valid, the account of the group is there, and has the kind of the account.
func TestKindIsKept(t *testing.T) {
	r := rand.New(rand.NewSource(4))
	for range 1000 {
		e, c := randomMapping(r)
		for _, a := range e.Chart {
			for _, day := range mapping.Dates(e) {
				to, err := mapping.At(e, a.Code, day)
				if b, ok := chart.Find(c, to); err == api.OK && (!ok || b.Kind != a.Kind) {
					t.Errorf("At(%v, %d, %d) is %d", e, a.Code, day, to)
				}
			}
		}
	}
}

// P9.3: the days on which links begin, also such that are no dates, ascending, each once; and of no links, none.
func TestDates(t *testing.T) {
	for _, x := range []struct {
		since, want []int
	}{
		{nil, nil}, {[]int{0}, []int{0}}, {[]int{3, 2, 1}, []int{1, 2, 3}}, {[]int{1, 1}, []int{1}}, {[]int{2, 1, 2, 1, 2}, []int{1, 2}}, {[]int{-1, 0, 1, 0, -1}, []int{-1, 0, 1}},
		{[]int{10, 9, 100, -10, -9}, []int{-10, -9, 9, 10, 100}}, {[]int{date.Max, date.Min}, []int{date.Min, date.Max}},
		{[]int{math.MaxInt, 0, math.MinInt, date.Max + 1, date.Min - 1, math.MaxInt, math.MinInt}, []int{math.MinInt, date.Min - 1, 0, date.Max + 1, math.MaxInt}},
	} {
		for _, code := range []int{100, 5} {
			e := api.Entity{Chart: sample().Chart}
			for i, since := range x.since {
				e.Links = append(e.Links, api.Link{From: code, To: 1000 + i, Since: since})
			}
			if dates := mapping.Dates(e); !slices.Equal(dates, x.want) {
				t.Errorf("Dates(%v): %d, not %d", e.Links, dates, x.want)
			}
		}
	}
	if dates := mapping.Dates(sample()); !slices.Equal(dates, []int{date.Min, -7, 0, 10, 50, 60, 90, date.Max}) {
		t.Errorf("Dates of the sample: %d", dates)
	}
	if dates := mapping.Dates(many(5000)); len(dates) != 5000 || dates[0] != 0 || dates[4999] != 4999 || !slices.IsSorted(dates) {
		t.Errorf("%d dates of 5000 links", len(dates))
	}
}

// P9.3: any entities: each element of Dates is that of a link, and the other way round.
func TestDatesOfRandomEntities(t *testing.T) {
	r := rand.New(rand.NewSource(5))
	for range 2000 {
		e := randomEntity(r)
		dates := mapping.Dates(e)
		for i, day := range dates {
			if i > 0 && day <= dates[i-1] || !slices.ContainsFunc(e.Links, func(l api.Link) bool { return l.Since == day }) {
				t.Errorf("Dates(%v): %d", e.Links, dates)
			}
		}
		for _, l := range e.Links {
			if !slices.Contains(dates, l.Since) {
				t.Errorf("Dates(%v): %d", e.Links, dates)
			}
		}
	}
}

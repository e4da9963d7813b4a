package entry_test

import (
	"math"
	"math/rand"
	"slices"
	"testing"

	"tallystone/api"
	"tallystone/entry"
)

// P11.1: a reversal has the entity, the text and the lines of the entry, with negated amounts.
func TestReverse(t *testing.T) {
	x := sale()
	want := api.Entry{ID: 9, Entity: 0, Date: x.Date + 3, Kind: api.EntryReversal, Of: 4, Text: "sale", Lines: []api.Line{
		{Account: 10, Amount: -100, Partner: -1},
		{Account: 15, Amount: -20, Partner: 3},
		{Account: 100, Amount: 120, Partner: 1},
	}}
	if r := entry.Reverse(x, 9, x.Date+3); !isEqual(r, want) {
		t.Errorf("the reversal is %v, not %v", r, want)
	}
	// The reversal of a reversal is the reversal of that entry, not the entry itself.
	want.ID, want.Of, want.Date, want.Lines = 4, 9, x.Date, x.Lines
	if r := entry.Reverse(entry.Reverse(x, 9, x.Date+3), 4, x.Date); !isEqual(r, want) {
		t.Errorf("the reversal of the reversal is %v, not %v", r, want)
	}
}

// P11.1: any entry is reversed, also one that is not valid, without checking the ID and the date.
func TestReverseOfAnyEntry(t *testing.T) {
	for _, n := range extremes() {
		x := api.Entry{ID: n, Entity: n, Date: n, Kind: n, Of: n, Text: "\xff", Lines: []api.Line{{Account: n, Partner: n}, {Account: n, Amount: n, Partner: n}, {Amount: 5}}}
		want := api.Entry{ID: n, Entity: n, Date: -7, Kind: 3, Of: n, Text: "\xff", Lines: []api.Line{{Account: n, Partner: n}, {Account: n, Amount: -n, Partner: n}, {Amount: -5}}}
		if r := entry.Reverse(x, n, -7); !isEqual(r, want) {
			t.Errorf("the reversal is %v, not %v", r, want)
		}
		want = api.Entry{ID: n + 1, Date: n, Kind: 3}
		if r := entry.Reverse(api.Entry{}, n+1, n); !isEqual(r, want) {
			t.Errorf("the reversal of nothing is %v, not %v", r, want)
		}
	}
}

// P11.2: the reversal of a valid entry is valid with a positive ID and a date in the calendar, and otherwise not; its lines are
// opposite to those of the entry, and both together have an empty normal form.
func TestReversalOfValidEntry(t *testing.T) {
	g, r := sample(), rand.New(rand.NewSource(4))
	for range 2000 {
		x := randomEntry(r)
		id, day := 1+r.Intn(1000), first(g)+r.Intn(last(g)-first(g)+1)
		reversal := entry.Reverse(x, id, day)
		wantError(t, "a reversal", g, reversal, api.OK)
		wantError(t, "a reversal with the greatest ID", g, entry.Reverse(x, math.MaxInt, last(g)), api.OK)
		wantError(t, "a reversal without an ID", g, entry.Reverse(x, 0, day), api.ErrArg)
		wantError(t, "a reversal with a negative ID", g, entry.Reverse(x, -id, day), api.ErrArg)
		wantError(t, "a reversal before the calendar", g, entry.Reverse(x, id, first(g)-1), api.ErrRange)
		wantError(t, "a reversal behind the calendar", g, entry.Reverse(x, id, last(g)+1), api.ErrRange)
		if !entry.Opposite(reversal.Lines, x.Lines) || !entry.Opposite(x.Lines, reversal.Lines) || entry.Opposite(x.Lines, x.Lines) {
			t.Errorf("the lines of %v and %v are not opposite", x, reversal)
		}
		both := slices.Concat(x.Lines, reversal.Lines)
		if n := entry.Normal(both); len(n) != 0 || entry.Sum(both) != 0 {
			t.Errorf("%v and %v together: %v", x, reversal, n)
		}
		r.Shuffle(len(both), func(i, j int) { both[i], both[j] = both[j], both[i] })
		if n := entry.Normal(both); len(n) != 0 {
			t.Errorf("%v and %v together, shuffled: %v", x, reversal, n)
		}
	}
}

// P11.1: reversals and their entries share no memory.
func TestReverseCopies(t *testing.T) {
	x := sale()
	r := entry.Reverse(x, 9, 0)
	clear(r.Lines[:cap(r.Lines)])
	if !isEqual(x, sale()) {
		t.Errorf("the entry was changed to %v", x)
	}
	r = entry.Reverse(x, 9, 0)
	clear(x.Lines)
	if !entry.Opposite(r.Lines, sale().Lines) {
		t.Errorf("the reversal was changed to %v", r)
	}
}

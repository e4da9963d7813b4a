package journal_test

import (
	"math/rand"
	"reflect"
	"testing"

	"tallystone/api"
	"tallystone/entry"
	"tallystone/group"
	"tallystone/journal"
)

// spoil overwrites all lines of entries, and the entries themselves.
func spoil(list []api.Entry) {
	list = list[:cap(list)]
	for i := range list {
		clear(list[i].Lines[:cap(list[i].Lines)])
		list[i] = api.Entry{ID: 77, Entity: 1}
	}
}

// P12.1: a journal keeps copies of the entries that are posted.
func TestPostCopies(t *testing.T) {
	a := sale(5, 0, 3, 100)
	back := entry.Reverse(a, 6, a.Date)
	given := []api.Entry{sale(5, 0, 3, 100), entry.Reverse(a, 6, a.Date)}
	j := newJournal(t, sample(), given...)
	spoil(given)
	wantJournal(t, j, []api.Entry{a, back})
}

// P12.1: what a journal returns is a copy each time.
func TestResultsAreCopies(t *testing.T) {
	list := []api.Entry{sale(5, 0, 3, 100), sale(4, 1, 2, 50), sale(9, 0, 2, 70)}
	j := newJournal(t, sample(), list...)
	spoil(j.Entries())
	spoil(j.Of(0))
	for _, x := range list {
		x, _ := j.Get(x.ID)
		clear(x.Lines[:cap(x.Lines)])
	}
	wantJournal(t, j, list)
	one, two := j.Entries(), j.Of(0)
	wantPost(t, "a reversal", j, entry.Reverse(list[0], 6, last()), api.OK)
	wantEntries(t, "earlier entries", one, list)
	wantEntries(t, "earlier entries of an entity", two, []api.Entry{list[0], list[2]})
	spoil(one)
	wantEntries(t, "other results", two, []api.Entry{list[0], list[2]})
}

// P12.1: later changes of the group do not matter.
func TestGroupIsCopied(t *testing.T) {
	g := sample()
	j := newJournal(t, g)
	clear(g.Chart)
	for i := range g.Entities {
		clear(g.Entities[i].Chart)
		clear(g.Entities[i].Links)
	}
	clear(g.Entities)
	x := changed(sale(1, 0, 0, 5), func(x *api.Entry) { x.Lines[0].Account = 15 })
	wantPost(t, "a group that was cleared", j, x, api.OK)
	wantPost(t, "a group that was cleared", j.Clone(), sale(2, 0, 0, 5), api.OK)
	wantJournal(t, j, []api.Entry{x})
}

// P12.1: no function changes its arguments.
func TestArgumentsStay(t *testing.T) {
	g, a := sample(), sale(5, 0, 3, 100)
	back := entry.Reverse(a, 6, a.Date)
	list := []api.Entry{a, back, sale(0, 0, 0, 0)}
	j := newJournal(t, g, a, back)
	wantPost(t, "an entry that is not valid", j, list[2], api.ErrArg)
	wantCheck(t, g, list, 2, api.ErrArg)
	if !reflect.DeepEqual(g, sample()) {
		t.Errorf("the group was changed to %v", g)
	}
	wantEntries(t, "the entries", list, []api.Entry{sale(5, 0, 3, 100), entry.Reverse(sale(5, 0, 3, 100), 6, a.Date), sale(0, 0, 0, 0)})
}

// P12.1: a copy has the same entries; afterwards, each journal goes its own way, also if both get entries with the same IDs and
// reversals of the same entry.
func TestClone(t *testing.T) {
	for length := range 12 {
		var list []api.Entry
		for i := range length {
			list = append(list, sale(10+i, i%3, 2, 100+i))
		}
		j := newJournal(t, sample(), list...)
		c := j.Clone()
		wantJournal(t, c, list)
		one, two := append(list[:length:length], sale(5, 0, 9, 1)), append(list[:length:length], sale(5, 1, 9, 2))
		wantPost(t, "the journal", j, one[length], api.OK)
		wantJournal(t, c, list)
		wantPost(t, "the copy", c, two[length], api.OK)
		wantJournal(t, j, one)
		wantJournal(t, c, two)
		if length == 0 {
			continue
		}
		back := entry.Reverse(list[0], 6, last())
		wantPost(t, "the copy", c, back, api.OK)
		wantJournal(t, j, one)
		wantPost(t, "the journal", j, entry.Reverse(list[0], 7, last()), api.OK)
		wantJournal(t, c, append(two, back))
	}
}

// P12.1: a copy of a journal of chance has the same errors for further entries.
func TestCloneGoesOn(t *testing.T) {
	g, r := sample(), rand.New(rand.NewSource(6))
	for range 20 {
		j, list := newJournal(t, g), []api.Entry(nil)
		for range 60 {
			if r.Intn(5) == 0 {
				j = j.Clone()
			}
			x := randomEntry(r, list)
			want := errorOf(g, list, x)
			wantPost(t, "a copy", j.Clone(), x, want)
			wantPost(t, "a journal", j, x, want)
			if want == api.OK {
				list = append(list, x)
			}
		}
		wantJournal(t, j, list)
	}
}

// P12.1: journals are independent of each other, and each one has its own group.
func TestTwoJournals(t *testing.T) {
	later := group.Sample()
	later.Calendar.Year++
	one, two := newJournal(t, sample()), newJournal(t, later)
	x := sale(1, 0, 0, 5)
	wantPost(t, "in its calendar", one, x, api.OK)
	wantPost(t, "before its calendar", two, x, api.ErrRange)
	y := sale(1, 1, 400, 5)
	wantPost(t, "the same ID in another journal", two, y, api.OK)
	wantJournal(t, one, []api.Entry{x})
	wantJournal(t, two, []api.Entry{y})
}

// P12.1: without a journal, nothing can be posted, and there is nothing.
func TestNil(t *testing.T) {
	var j *journal.Journal
	for _, x := range []api.Entry{{}, sale(1, 0, 0, 5)} {
		wantPost(t, "no journal", j, x, api.ErrState)
	}
	if j.Clone() != nil {
		t.Error("a copy of no journal")
	}
	wantJournal(t, j, nil)
}

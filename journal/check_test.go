package journal_test

import (
	"math"
	"math/rand"
	"testing"

	"tallystone/api"
	"tallystone/entry"
	"tallystone/journal"
)

// P12.1: the error of an entry is that of layer 11, whatever the journal contains.
func TestErrorOfEntry(t *testing.T) {
	x := sale(5, 0, 3, 100)
	for _, j := range []*journal.Journal{newJournal(t, sample()), newJournal(t, sample(), x)} {
		before := j.Entries()
		for _, c := range []struct {
			change func(x *api.Entry)
			want   api.Errno
		}{
			{func(x *api.Entry) { *x = api.Entry{} }, api.ErrArg},
			{func(x *api.Entry) { x.ID = 0 }, api.ErrArg},
			{func(x *api.Entry) { x.Entity = 4 }, api.ErrArg},
			{func(x *api.Entry) { x.Kind = api.EntryReversal }, api.ErrArg},
			{func(x *api.Entry) { x.Of = 5 }, api.ErrArg},
			{func(x *api.Entry) { x.Text = "\t" }, api.ErrArg},
			{func(x *api.Entry) { x.Lines = x.Lines[:1] }, api.ErrArg},
			{func(x *api.Entry) { x.Lines[1].Partner = 0 }, api.ErrArg},
			{func(x *api.Entry) { x.Lines[1].Account = 16 }, api.ErrUnknown},
			{func(x *api.Entry) { x.Lines[1].Account = 1010 }, api.ErrUnknown},
			{func(x *api.Entry) { x.Date = first() - 1 }, api.ErrRange},
			{func(x *api.Entry) { x.Date = last() + 1 }, api.ErrRange},
			{func(x *api.Entry) { x.Lines[1].Amount++ }, api.ErrUnbalanced},
		} {
			wantPost(t, "an entry that is not valid", j, changed(x, c.change), c.want)
		}
		wantJournal(t, j, before)
	}
}

// P12.1: an account that belongs to another one, and accounts without links, are accounts for an entry.
func TestAccounts(t *testing.T) {
	j := newJournal(t, sample())
	wantPost(t, "a child", j, changed(sale(1, 0, 0, 5), func(x *api.Entry) { x.Lines[0].Account = 15 }), api.OK)
	wantPost(t, "no link", j, changed(sale(2, 2, 0, 5), func(x *api.Entry) { x.Entity, x.Lines[1].Partner = 3, 0 }), api.OK)
	wantPost(t, "the chart of another entity", j, changed(sale(3, 1, 0, 5), func(x *api.Entry) { x.Lines[0].Account = 15 }), api.ErrUnknown)
	wantPost(t, "an account that is missing", j, changed(sale(3, 1, 0, 5), func(x *api.Entry) { x.Lines[0].Account = 20 }), api.ErrUnknown)
}

// P12.1: no two entries of a journal have the same ID, of whatever entities and kinds they are.
func TestDuplicate(t *testing.T) {
	a, b := sale(5, 0, 3, 100), sale(math.MaxInt, 1, 2, 50)
	j := newJournal(t, sample(), a, b)
	for _, id := range []int{5, math.MaxInt} {
		wantPost(t, "the same ID", j, sale(id, 2, 9, 1), api.ErrDuplicate)
		wantPost(t, "the same ID and entity", j, sale(id, 0, 3, 100), api.ErrDuplicate)
		wantPost(t, "a reversal with the same ID", j, entry.Reverse(a, id, a.Date), api.ErrDuplicate)
		wantPost(t, "a reversal of nothing with the same ID", j, entry.Reverse(sale(9, 0, 3, 100), id, a.Date), api.ErrDuplicate)
	}
	wantJournal(t, j, []api.Entry{a, b})
	back := entry.Reverse(a, 6, a.Date)
	wantPost(t, "the reversal", j, back, api.OK)
	wantPost(t, "the ID of a reversal", j, sale(6, 0, 3, 100), api.ErrDuplicate)
	wantPost(t, "another ID", j, sale(7, 0, 3, 100), api.OK)
	wantJournal(t, j, []api.Entry{a, b, back, sale(7, 0, 3, 100)})
}

// P12.1: the example of the chapter.
func TestExample(t *testing.T) {
	a := sale(5, 0, 3, 100)
	j := newJournal(t, sample(), a)
	back := entry.Reverse(a, 6, a.Date)
	wantPost(t, "the reversal", j, back, api.OK)
	wantPost(t, "a second reversal", j, entry.Reverse(a, 7, a.Date), api.ErrState)
	wantPost(t, "a reversal of the reversal", j, entry.Reverse(back, 7, a.Date), api.ErrState)
	wantJournal(t, j, []api.Entry{a, back})
}

// P12.1: a reversal names an entry of the journal, which is neither itself nor a later one.
func TestReversalOfNothing(t *testing.T) {
	a := sale(5, 0, 3, 100)
	j := newJournal(t, sample(), a)
	for _, of := range []int{1, 4, 6, 7, 1<<32 + 5, math.MaxInt} {
		wantPost(t, "a reversal of nothing", j, changed(entry.Reverse(a, 6, a.Date), func(x *api.Entry) { x.Of = of }), api.ErrNone)
	}
	wantJournal(t, j, []api.Entry{a})
}

// P12.1: a reversal is in conflict with an entry of another entity, of a later date, or with lines that are not opposite.
func TestConflict(t *testing.T) {
	a := changed(sale(5, 0, 3, 100), func(x *api.Entry) { x.Lines[1].Partner = -1 })
	j := newJournal(t, sample(), a)
	for name, change := range map[string]func(x *api.Entry){
		"another entity":      func(x *api.Entry) { x.Entity = 1 },
		"an earlier date":     func(x *api.Entry) { x.Date-- },
		"the first date":      func(x *api.Entry) { x.Date = first() },
		"the same lines":      func(x *api.Entry) { x.Lines = a.Lines },
		"other amounts":       func(x *api.Entry) { x.Lines[0].Amount--; x.Lines[1].Amount++ },
		"another account":     func(x *api.Entry) { x.Lines[0].Account = 15 },
		"another partner":     func(x *api.Entry) { x.Lines[0].Partner = 1 },
		"another order":       func(x *api.Entry) { x.Lines[0], x.Lines[1] = x.Lines[1], x.Lines[0] },
		"another pair":        func(x *api.Entry) { x.Lines = append(x.Lines, sale(1, 0, 0, 1).Lines...) },
		"lines that are less": func(x *api.Entry) { x.Lines[0].Amount, x.Lines[1].Amount = -1, 1 },
	} {
		wantPost(t, name, j, changed(entry.Reverse(a, 6, a.Date), change), api.ErrConflict)
	}
	wantJournal(t, j, []api.Entry{a})
	back := changed(entry.Reverse(a, 6, a.Date+1), func(x *api.Entry) { x.Text = "another text" })
	wantPost(t, "another text, a day later", j, back, api.OK)
	wantJournal(t, j, []api.Entry{a, back})
}

// P12.1: of several errors of a reversal, the first one counts.
func TestOrderOfErrors(t *testing.T) {
	a, b := sale(5, 0, 3, 100), sale(6, 1, 3, 100)
	back := entry.Reverse(a, 7, a.Date)
	j := newJournal(t, sample(), a, b, back)
	conflicts := func(x *api.Entry) { x.Date, x.Lines[0].Amount, x.Lines[1].Amount = first(), 1, -1 }
	for _, of := range []api.Entry{a, back} {
		wantPost(t, "the state and conflicts", j, changed(entry.Reverse(of, 8, a.Date), conflicts), api.ErrState)
		wantPost(t, "an ID and the state", j, entry.Reverse(of, 6, a.Date), api.ErrDuplicate)
		wantPost(t, "the date and the state", j, entry.Reverse(of, 8, first()-1), api.ErrRange)
		wantPost(t, "the balance and the state", j, changed(entry.Reverse(of, 6, a.Date), func(x *api.Entry) { x.Lines[0].Amount++ }), api.ErrUnbalanced)
	}
	wantPost(t, "an ID and conflicts", j, changed(entry.Reverse(b, 5, b.Date), conflicts), api.ErrDuplicate)
	wantPost(t, "nothing and conflicts", j, changed(entry.Reverse(sale(9, 0, 0, 1), 8, a.Date), conflicts), api.ErrNone)
	wantJournal(t, j, []api.Entry{a, b, back})
}

// P12.3: an entry that is no reversal is reversed exactly once, on its date or on a later day of the calendar; and no reversal is
// reversed.
func TestReversals(t *testing.T) {
	g, r := sample(), rand.New(rand.NewSource(5))
	for range 10 {
		j := newJournal(t, g)
		for range 60 {
			j.Post(randomEntry(r, j.Entries()))
		}
		for i, x := range j.Entries() {
			id := 1000 + i
			_, reversed := j.Reversal(x.ID)
			if reversed || x.Kind == api.EntryReversal {
				wantPost(t, "a reversal that is none", j, entry.Reverse(x, id, last()), api.ErrState)
				continue
			}
			for _, day := range []int{first(), x.Date - 1} {
				if first() <= day && day < x.Date {
					wantPost(t, "a reversal before the entry", j, entry.Reverse(x, id, day), api.ErrConflict)
				}
			}
			wantPost(t, "a reversal behind the calendar", j, entry.Reverse(x, id, last()+1), api.ErrRange)
			for _, day := range []int{x.Date, x.Date + 1, last()} {
				wantPost(t, "a reversal of an entry of a copy", j.Clone(), entry.Reverse(x, id, day), api.OK)
			}
			wantPost(t, "a reversal", j, entry.Reverse(x, id, x.Date+r.Intn(last()-x.Date+1)), api.OK)
			wantPost(t, "a second reversal", j, entry.Reverse(x, id+500, last()), api.ErrState)
			if back, ok := j.Reversal(x.ID); back != id || !ok {
				t.Errorf("the reversal of %d is %d, %t, not %d", x.ID, back, ok, id)
			}
		}
	}
}

// P12.1: adjustments are reversed as other entries are.
func TestReversalOfAdjustment(t *testing.T) {
	a := changed(sale(5, 0, 3, 100), func(x *api.Entry) { x.Kind = api.EntryAdjustment })
	back := entry.Reverse(a, 4, last())
	wantJournal(t, newJournal(t, sample(), a, back), []api.Entry{a, back})
}

// P12.1: a journal has up to 2000 entries; all other errors come before that of a full journal.
func TestLimit(t *testing.T) {
	g := sample()
	a := sale(1, 0, 0, 1)
	list := []api.Entry{a, entry.Reverse(a, 2, a.Date)}
	for id := 3; id <= api.MaxEntries; id++ {
		list = append(list, sale(id, id%3, id%1000, id))
	}
	j := newJournal(t, g, list[:api.MaxEntries-1]...)
	wantPost(t, "the last one", j.Clone(), entry.Reverse(list[2], 2000, last()), api.OK)
	wantPost(t, "the last one", j, list[api.MaxEntries-1], api.OK)
	wantPost(t, "one more", j, sale(2001, 0, 0, 1), api.ErrLimit)
	wantPost(t, "one more in a copy", j.Clone(), sale(2001, 0, 0, 1), api.ErrLimit)
	wantPost(t, "a reversal more", j, entry.Reverse(list[2], 2001, last()), api.ErrLimit)
	wantPost(t, "one more that is not valid", j, sale(2001, 0, -1, 1), api.ErrRange)
	wantPost(t, "a duplicate more", j, list[5], api.ErrDuplicate)
	wantPost(t, "a reversal of nothing more", j, entry.Reverse(sale(2001, 0, 0, 1), 2002, last()), api.ErrNone)
	wantPost(t, "a second reversal more", j, entry.Reverse(a, 2001, last()), api.ErrState)
	wantPost(t, "a conflict more", j, entry.Reverse(list[998], 2001, first()), api.ErrConflict)
	if j.Len() != api.MaxEntries {
		t.Errorf("the journal has %d entries", j.Len())
	}
	wantEntries(t, "a full journal", j.Entries(), list)
	wantCheck(t, g, list, 0, api.OK)
	wantCheck(t, g, append(list, sale(2001, 0, 0, 1)), api.MaxEntries, api.ErrLimit)
	wantCheck(t, g, append(list, sale(7, 0, 0, 1), sale(2001, 0, 0, 1)), api.MaxEntries, api.ErrDuplicate)
}

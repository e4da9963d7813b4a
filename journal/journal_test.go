package journal_test

import (
	"math"
	"math/rand"
	"slices"
	"testing"

	"tallystone/api"
	"tallystone/calendar"
	"tallystone/entry"
	"tallystone/group"
	"tallystone/journal"
)

// extremes returns integers at, next to and far beyond all limits of the layer, and some whose lowest bits are small numbers.
func extremes() []int {
	l := []int{math.MinInt, math.MinInt + 1, math.MaxInt - 1, math.MaxInt, 0, 1<<32 + 1, 1<<32 + 5, -1 << 32, math.MinInt + 5}
	for _, limit := range []int{1, 2, 4, 12, 40, 2000, 99999, 1000000000000} {
		l = append(l, limit-1, limit, limit+1, -limit-1, -limit, -limit+1)
	}
	return l
}

// sample returns the sample group, in which parent has an account 15 that belongs to another one, north has not the account 20,
// and joint has no links.
func sample() api.Group {
	g := group.Sample()
	e := g.Entities
	e[0].Chart = slices.Insert(e[0].Chart, 1, api.Account{Code: 15, Kind: api.KindAsset, Parent: 10})
	e[1].Chart, e[1].Links = slices.Delete(e[1].Chart, 1, 2), slices.Delete(e[1].Links, 1, 2)
	e[3].Links = nil
	return g
}

// first and last return the first and the last day of the calendar of the sample group.
func first() int {
	day, _ := calendar.First(sample().Calendar, 0)
	return day
}

func last() int {
	day, _ := calendar.Last(sample().Calendar, sample().Calendar.Periods-1)
	return day
}

// sale returns an entry of an entity, some days after the beginning of the calendar.
func sale(id, entity, day, amount int) api.Entry {
	partner := 3 - entity
	return api.Entry{ID: id, Entity: entity, Date: first() + day, Kind: api.EntryNormal, Text: "sale", Lines: []api.Line{
		{Account: 10, Amount: amount, Partner: -1},
		{Account: 100, Amount: -amount, Partner: partner},
	}}
}

// changed returns an entry with a change.
func changed(x api.Entry, change func(x *api.Entry)) api.Entry {
	x.Lines = slices.Clone(x.Lines)
	change(&x)
	return x
}

// newJournal returns the journal of a valid group.
func newJournal(t *testing.T, g api.Group, list ...api.Entry) *journal.Journal {
	t.Helper()
	j, e := journal.New(g)
	if e != api.OK || j == nil {
		t.Fatalf("the error of the group is %d", e)
	}
	for _, x := range list {
		wantPost(t, "a beginning", j, x, api.OK)
	}
	return j
}

// wantPost posts an entry and tests the error.
func wantPost(t *testing.T, name string, j *journal.Journal, x api.Entry, want api.Errno) {
	t.Helper()
	if e := j.Post(x); e != want {
		t.Errorf("%q: posting the entry %d has the error %d, not %d", name, x.ID, e, want)
	}
}

// errorOf returns the error of posting an entry behind a list of entries, as the chapter has it, word by word.
func errorOf(g api.Group, list []api.Entry, x api.Entry) api.Errno {
	if e := entry.Check(g, x); e != api.OK {
		return e
	}
	var of api.Entry
	reversed := false
	for _, y := range list {
		if y.ID == x.ID {
			return api.ErrDuplicate
		}
		if y.ID == x.Of {
			of = y
		}
		reversed = reversed || y.Kind == 3 && y.Of == x.Of
	}
	if x.Kind == 3 {
		switch {
		case of.ID == 0:
			return api.ErrNone
		case of.Kind == 3 || reversed:
			return api.ErrState
		case of.Entity != x.Entity, of.Date > x.Date, !entry.Equal(x, changed(entry.Reverse(of, x.ID, x.Date), func(y *api.Entry) { y.Text = x.Text })):
			return api.ErrConflict
		}
	}
	if len(list) >= 2000 {
		return api.ErrLimit
	}
	return api.OK
}

// wantJournal tests everything that a journal tells against the list of its entries.
func wantJournal(t *testing.T, j *journal.Journal, list []api.Entry) {
	t.Helper()
	if n := j.Len(); n != len(list) {
		t.Errorf("%d entries, not %d", n, len(list))
	}
	wantEntries(t, "all entries", j.Entries(), list)
	for _, entity := range append(extremes(), 3) {
		wantEntries(t, "entries of an entity", j.Of(entity), slices.DeleteFunc(slices.Clone(list), func(x api.Entry) bool { return x.Entity != entity }))
	}
	for _, x := range list {
		wantGet(t, j, list, x.ID)
		wantGet(t, j, list, x.ID+1)
		wantGet(t, j, list, -x.ID)
	}
	for _, id := range extremes() {
		wantGet(t, j, list, id)
	}
}

func wantEntries(t *testing.T, name string, l, want []api.Entry) {
	t.Helper()
	if !slices.EqualFunc(l, want, entry.Equal) {
		t.Errorf("%s: %v, not %v", name, l, want)
	}
}

// wantGet tests the entry with an ID, its lines and its reversal.
func wantGet(t *testing.T, j *journal.Journal, list []api.Entry, id int) {
	t.Helper()
	var want api.Entry
	reversal := 0
	for _, x := range list {
		if x.ID == id {
			want = x
		}
		if x.Kind == 3 && x.Of == id {
			reversal = x.ID
		}
	}
	if x, ok := j.Get(id); !entry.Equal(x, want) || ok != (want.ID != 0) {
		t.Errorf("the entry %d is %v, %t, not %v", id, x, ok, want)
	}
	if r, ok := j.Reversal(id); r != reversal || ok != (reversal != 0) {
		t.Errorf("the reversal of %d is %d, %t, not %d", id, r, ok, reversal)
	}
	for _, i := range append(extremes(), len(want.Lines)-1, len(want.Lines)) {
		var line api.Line
		exists := 0 <= i && i < len(want.Lines)
		if exists {
			line = want.Lines[i]
		}
		if l, ok := j.Line(api.Ref{Entry: id, Line: i}); l != line || ok != exists {
			t.Errorf("the line %d of the entry %d is %v, %t, not %v", i, id, l, ok, line)
		}
	}
}

// randomEntry returns an entry that is valid, or nearly so, and often the reversal of one of a list.
func randomEntry(r *rand.Rand, list []api.Entry) api.Entry {
	x := sale(1+r.Intn(60), r.Intn(3), r.Intn(40), 1+r.Intn(5))
	x.Kind = api.EntryNormal + r.Intn(2)
	if len(list) > 0 && r.Intn(2) == 0 {
		x = entry.Reverse(list[r.Intn(len(list))], x.ID, x.Date)
	}
	switch r.Intn(16) {
	case 0:
		x.Lines[0].Account = []int{15, 20, 16, 1000}[r.Intn(4)]
	case 1:
		x.Lines[0].Amount++
	case 2:
		x.Lines[0].Amount++
		x.Lines[1].Amount--
	case 3:
		x.Lines[r.Intn(2)].Partner = r.Intn(5) - 1
	case 4:
		x.Date += r.Intn(100) - 50
	case 5:
		x.ID = r.Intn(3) - 1
	case 6:
		x.Entity = r.Intn(5) - 1
	case 7:
		x.Of = r.Intn(40)
	case 8:
		x.Kind = r.Intn(5)
	case 9:
		x.Text = []string{"", "\n", "another"}[r.Intn(3)]
	}
	return x
}

// P12.1, P12.2: a journal of chance tells exactly the entries without an error, in their order; of these, the error and everything
// else are as another implementation has it.
func TestRandomJournals(t *testing.T) {
	g, r := sample(), rand.New(rand.NewSource(1))
	count := map[api.Errno]int{}
	for range 60 {
		j, list := newJournal(t, g), []api.Entry(nil)
		for range 120 {
			x := randomEntry(r, list)
			want := errorOf(g, list, x)
			wantPost(t, "an entry of chance", j, x, want)
			count[want]++
			if want == api.OK {
				list = append(list, x)
			}
			if r.Intn(10) == 0 {
				wantJournal(t, j, list)
			}
		}
		wantJournal(t, j, list)
	}
	for _, e := range []api.Errno{api.OK, api.ErrArg, api.ErrUnknown, api.ErrRange, api.ErrUnbalanced, api.ErrDuplicate, api.ErrNone, api.ErrState, api.ErrConflict} {
		if count[e] < 20 {
			t.Errorf("%d entries have the error %d", count[e], e)
		}
	}
}

// P12.1: only valid groups have a journal, and it is empty.
func TestNew(t *testing.T) {
	wantJournal(t, newJournal(t, sample()), nil)
	for name, change := range map[string]func(g *api.Group){
		"nothing":                  func(g *api.Group) { *g = api.Group{} },
		"no calendar":              func(g *api.Group) { g.Calendar.Periods = 0 },
		"no entities":              func(g *api.Group) { g.Entities = nil },
		"a parent that is none":    func(g *api.Group) { g.Chart[1].Parent = 999 },
		"a parent of an entity":    func(g *api.Group) { g.Entities[0].Chart[1].Parent = 999 },
		"a parent of another kind": func(g *api.Group) { g.Entities[2].Chart[1].Parent = 60 },
		"a link to a role":         func(g *api.Group) { g.Entities[2].Links[0].To = g.Roles.Goodwill },
		"a link from no account":   func(g *api.Group) { g.Entities[0].Links[0].From = 999 },
	} {
		g := sample()
		change(&g)
		if j, e := journal.New(g); j != nil || e != api.ErrArg {
			t.Errorf("%q: the error of the group is %d", name, e)
		}
		for _, list := range [][]api.Entry{nil, {sale(1, 0, 0, 5)}, {{}}} {
			wantCheck(t, g, list, 0, api.ErrArg)
		}
	}
}

func wantCheck(t *testing.T, g api.Group, list []api.Entry, index int, want api.Errno) {
	t.Helper()
	if i, e := journal.Check(g, list); i != index || e != want {
		t.Errorf("the entry %d has the error %d, not the entry %d the error %d", i, e, index, want)
	}
}

// P12.1: Check returns the index and the error of the first entry with an error.
func TestCheck(t *testing.T) {
	g, a, b := sample(), sale(1, 0, 0, 5), sale(2, 1, 0, 5)
	back := entry.Reverse(a, 3, a.Date)
	wantCheck(t, g, nil, 0, api.OK)
	wantCheck(t, g, []api.Entry{}, 0, api.OK)
	wantCheck(t, g, []api.Entry{a, b, back}, 0, api.OK)
	wantCheck(t, g, []api.Entry{b, a, back}, 0, api.OK)
	wantCheck(t, g, []api.Entry{{}, a, a}, 0, api.ErrArg)
	wantCheck(t, g, []api.Entry{a, b, a, {}}, 2, api.ErrDuplicate)
	wantCheck(t, g, []api.Entry{a, {}, a}, 1, api.ErrArg)
	wantCheck(t, g, []api.Entry{back, a}, 0, api.ErrNone)
	wantCheck(t, g, []api.Entry{b, back, a}, 1, api.ErrNone)
	wantCheck(t, g, []api.Entry{a, back, entry.Reverse(a, 4, a.Date)}, 2, api.ErrState)
	wantCheck(t, g, []api.Entry{a, back, b, entry.Reverse(b, 4, b.Date-1)}, 3, api.ErrRange)
	wantCheck(t, g, []api.Entry{sale(5, 0, 1, 5), entry.Reverse(sale(5, 0, 1, 5), 4, first())}, 1, api.ErrConflict)
	r := rand.New(rand.NewSource(2))
	for range 300 {
		var list []api.Entry
		index, want := 0, api.OK
		for i := range r.Intn(20) {
			x := randomEntry(r, list)
			e := errorOf(g, list, x)
			if list = append(list, x); e != api.OK {
				index, want = i, e
				break
			}
		}
		wantCheck(t, g, append(list, api.Entry{}), either(want != api.OK, index, len(list)), either(want != api.OK, want, api.ErrArg))
		wantCheck(t, g, list, index, want)
	}
}

func either[T any](condition bool, yes, no T) T {
	if condition {
		return yes
	}
	return no
}

// P12.2: every beginning of the entries of a journal is a journal itself; the entries of all entities together, each in their
// order, are all entries.
func TestBeginnings(t *testing.T) {
	g, r := sample(), rand.New(rand.NewSource(3))
	for range 20 {
		j := newJournal(t, g)
		for range 100 {
			j.Post(randomEntry(r, j.Entries()))
		}
		list := j.Entries()
		for n := range list {
			wantCheck(t, g, list[:n], 0, api.OK)
		}
		wantJournal(t, newJournal(t, g, list...), list)
		sum, next := 0, make([]int, len(g.Entities))
		for entity := range g.Entities {
			sum += len(j.Of(entity))
		}
		if sum != len(list) || sum < 20 {
			t.Errorf("the entities have %d entries of %d", sum, len(list))
		}
		for _, x := range list {
			if of := j.Of(x.Entity); !entry.Equal(of[next[x.Entity]], x) {
				t.Errorf("the entry %d of the entity %d is %v, not %v", next[x.Entity], x.Entity, of, x)
			}
			next[x.Entity]++
		}
	}
}

// P12.4: the amounts of all lines of an entity add up to 0.
func TestBalanced(t *testing.T) {
	g, r := sample(), rand.New(rand.NewSource(4))
	for range 50 {
		j := newJournal(t, g)
		for range 50 {
			j.Post(randomEntry(r, j.Entries()))
		}
		for entity := range g.Entities {
			sum := 0
			for _, x := range j.Of(entity) {
				for i := range x.Lines {
					l, ok := j.Line(api.Ref{Entry: x.ID, Line: i})
					if !ok || l != x.Lines[i] {
						t.Errorf("the line %d of %v is %v, %t", i, x, l, ok)
					}
					sum += l.Amount
				}
			}
			if sum != 0 {
				t.Errorf("the lines of the entity %d add up to %d", entity, sum)
			}
		}
	}
}

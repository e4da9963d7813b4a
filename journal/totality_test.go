package journal_test

import (
	"math/rand"
	"testing"

	"tallystone/api"
	"tallystone/date"
	"tallystone/entry"
	"tallystone/group"
)

// P1, P12.1: every function answers whatever its arguments are, and in every state.
func TestTotality(t *testing.T) {
	g, r := sample(), rand.New(rand.NewSource(7))
	j, list := newJournal(t, g), []api.Entry(nil)
	for range 20000 {
		x := anyEntry(r)
		want := errorOf(g, list, x)
		wantPost(t, "any entry", j, x, want)
		if want == api.OK {
			list = append(list, x)
		}
		wantGet(t, j, list, anyNumber(r))
	}
	wantJournal(t, j, list)
	if len(list) < 5 {
		t.Errorf("%d entries", len(list))
	}
	for range 2000 {
		list := []api.Entry{anyEntry(r), anyEntry(r)}
		index, want := 0, errorOf(g, nil, list[0])
		if want == api.OK {
			if want = errorOf(g, list[:1], list[1]); want != api.OK {
				index = 1
			}
		}
		wantCheck(t, g, list, index, want)
	}
}

func anyNumber(r *rand.Rand) int {
	if l := extremes(); r.Intn(3) == 0 {
		return l[r.Intn(len(l))]
	}
	return r.Intn(6) - 1
}

// anyEntry returns an entry of which some fields are those of a sale, and the others may be anything.
func anyEntry(r *rand.Rand) api.Entry {
	x := sale(1+r.Intn(1000), r.Intn(3), r.Intn(30), 1+r.Intn(3))
	if r.Intn(4) == 0 {
		x = entry.Reverse(x, 1+r.Intn(1000), x.Date)
	}
	for range r.Intn(3) {
		l := &x.Lines[r.Intn(len(x.Lines))]
		for _, field := range []*int{&x.ID, &x.Entity, &x.Date, &x.Kind, &x.Of, &l.Account, &l.Amount, &l.Partner} {
			if r.Intn(8) == 0 {
				*field = anyNumber(r)
			}
		}
	}
	if r.Intn(10) == 0 {
		x.Lines = x.Lines[:r.Intn(len(x.Lines))]
	}
	return x
}

// greatGroup returns a group with as many entities, accounts and links as there may be.
func greatGroup() api.Group {
	g := group.Sample()
	for code := 10000; len(g.Chart) < api.MaxAccounts; code++ {
		g.Chart = append(g.Chart, api.Account{Code: code, Kind: api.KindAsset, Basis: api.BasisClosing, Parent: 1000})
	}
	var e api.Entity
	for code := 1; code <= api.MaxAccounts; code++ {
		e.Chart = append(e.Chart, api.Account{Code: code, Kind: api.KindAsset, Parent: code - 1})
		e.Links = append(e.Links, api.Link{From: code, To: 10000, Since: date.Min}, api.Link{From: code, To: 10001, Since: first()})
	}
	g.Entities = nil
	for i := range api.MaxEntities {
		e.Name, e.Currency = string(rune('a'+i)), "EUR"
		g.Entities = append(g.Entities, e)
	}
	return g
}

// P1, P12.1: a full journal with as many lines as there may be, of a group of the greatest size, is a journal.
func TestGreatJournal(t *testing.T) {
	g := greatGroup()
	var list []api.Entry
	for i := range api.MaxEntries {
		x := sale(i+1, i%api.MaxEntities, i%1000, 5)
		x.Lines = nil
		for k := range api.MaxLines / 2 {
			x.Lines = append(x.Lines, api.Line{Account: 1 + k, Amount: api.MaxAmount, Partner: -1}, api.Line{Account: api.MaxAccounts - k, Amount: -api.MaxAmount, Partner: -1})
		}
		list = append(list, x)
	}
	wantCheck(t, g, list, 0, api.OK)
	wantEntries(t, "a great journal", newJournal(t, g, list...).Entries(), list)
	list[1999].Lines[39].Account = api.MaxAccounts + 1
	wantCheck(t, g, list, 1999, api.ErrUnknown)
}

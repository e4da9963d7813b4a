package entry_test

import (
	"math"
	"math/rand"
	"slices"
	"testing"

	"tallystone/api"
	"tallystone/calendar"
	"tallystone/entry"
	"tallystone/group"
)

// extremes returns integers at, next to and far beyond all limits of the layer, small ones, and some whose lowest bits are
// accounts, amounts, kinds or entities.
func extremes() []int {
	l := []int{math.MinInt, math.MinInt + 1, math.MaxInt - 1, math.MaxInt, 0, 1<<32 + 10, 1<<32 + 1, -1 << 32, -1 << 40, math.MinInt + 10, math.MinInt + 20453}
	for _, limit := range []int{1, 3, 5, 12, 20, 40, 140, 1010, 20453, 99999, 1000000000000, 1 << 62} {
		l = append(l, limit-1, limit, limit+1, -limit-1, -limit, -limit+1)
	}
	return l
}

// sample returns the sample group, with another chart of each entity: parent has the account 15, north has not 20, west has
// only 100 and 140, and joint has no links.
func sample() api.Group {
	g := group.Sample()
	e := g.Entities
	e[0].Chart = slices.Insert(e[0].Chart, 1, api.Account{Code: 15, Kind: api.KindLiability})
	e[1].Chart, e[1].Links = slices.Delete(e[1].Chart, 1, 2), slices.Delete(e[1].Links, 1, 2)
	e[2].Chart, e[2].Links = []api.Account{e[2].Chart[9], e[2].Chart[13]}, nil
	e[3].Links = nil
	return g
}

// sale returns a valid entry of parent in the sample group.
func sale() api.Entry {
	return api.Entry{ID: 4, Entity: 0, Date: first(sample()) + 5, Kind: api.EntryNormal, Text: "sale", Lines: []api.Line{
		{Account: 10, Amount: 100, Partner: -1},
		{Account: 15, Amount: 20, Partner: 3},
		{Account: 100, Amount: -120, Partner: 1},
	}}
}

// clone returns an entry that shares no memory with another one.
func clone(x api.Entry) api.Entry {
	x.Lines = slices.Clone(x.Lines)
	return x
}

// changed returns an entry with a change.
func changed(x api.Entry, change func(x *api.Entry)) api.Entry {
	x = clone(x)
	change(&x)
	return x
}

// first and last return the first and the last day of the calendar of a valid group.
func first(g api.Group) int {
	day, _ := calendar.First(g.Calendar, 0)
	return day
}

func last(g api.Group) int {
	day, _ := calendar.Last(g.Calendar, g.Calendar.Periods-1)
	return day
}

// errorOf returns the error of an entry as the chapter has it, word by word.
func errorOf(g api.Group, x api.Entry) api.Errno {
	if !group.Valid(g) || x.ID < 1 || x.Entity < 0 || x.Entity > len(g.Entities)-1 {
		return api.ErrArg
	}
	switch {
	case x.Kind != 1 && x.Kind != 2 && x.Kind != 3,
		x.Kind != 3 && x.Of != 0,
		x.Kind == 3 && x.Of < 1,
		len(x.Lines) < 2 || len(x.Lines) > 40,
		len(x.Text) > 80:
		return api.ErrArg
	}
	for _, c := range []byte(x.Text) {
		if c < 32 || c > 126 {
			return api.ErrArg
		}
	}
	sum, known := 0, true
	for _, l := range x.Lines {
		if l.Amount == 0 || l.Amount < -1e12 || l.Amount > 1e12 || l.Partner < -1 || l.Partner > len(g.Entities)-1 || l.Partner == x.Entity {
			return api.ErrArg
		}
		sum += l.Amount
		known = known && slices.ContainsFunc(g.Entities[x.Entity].Chart, func(a api.Account) bool { return a.Code == l.Account })
	}
	switch {
	case !known:
		return api.ErrUnknown
	case x.Date < first(g) || x.Date > last(g):
		return api.ErrRange
	case sum != 0:
		return api.ErrUnbalanced
	}
	return api.OK
}

// wantError tests the error of an entry, for Check and for the other implementation.
func wantError(t *testing.T, name string, g api.Group, x api.Entry, want api.Errno) {
	t.Helper()
	if e := entry.Check(g, x); e != want {
		t.Errorf("%q: the error is %d, not %d", name, e, want)
	}
	if e := errorOf(g, x); e != want {
		t.Errorf("%q: the test says that the error is %d, not %d", name, e, want)
	}
}

// wantChanged tests the error of a valid entry of the sample group that was changed.
func wantChanged(t *testing.T, name string, want api.Errno, change func(x *api.Entry)) {
	t.Helper()
	wantError(t, name, sample(), changed(sale(), change), want)
}

// randomAmount returns an amount other than 0, often a small or a great one.
func randomAmount(r *rand.Rand) int {
	n := 1 + r.Intn([]int{3, 1000, api.MaxAmount}[r.Intn(3)])
	if r.Intn(8) == 0 {
		n = api.MaxAmount - r.Intn(3)
	}
	if r.Intn(2) == 0 {
		return -n
	}
	return n
}

// randomLines returns lines with few different accounts and partners, and amounts other than 0.
func randomLines(r *rand.Rand, length int) []api.Line {
	lines := make([]api.Line, length)
	for i := range lines {
		lines[i] = api.Line{Account: 10 * r.Intn(4), Amount: randomAmount(r), Partner: r.Intn(4) - 1}
	}
	return lines
}

// randomEntry returns a valid entry of the sample group.
func randomEntry(r *rand.Rand) api.Entry {
	g := sample()
	x := api.Entry{ID: 1 + r.Intn(100), Entity: r.Intn(4), Kind: 1 + r.Intn(3), Date: first(g) + r.Intn(last(g)-first(g)+1), Text: randomText(r)}
	if x.Kind == api.EntryReversal {
		x.Of = 1 + r.Intn(100)
	}
	accounts := g.Entities[x.Entity].Chart
	for _, amount := range balancedAmounts(r, 2+r.Intn(39)) {
		partner := r.Intn(4)
		if partner == x.Entity {
			partner = -1
		}
		x.Lines = append(x.Lines, api.Line{Account: accounts[r.Intn(len(accounts))].Code, Amount: amount, Partner: partner})
	}
	return x
}

func randomText(r *rand.Rand) string {
	s := make([]byte, r.Intn(81))
	for i := range s {
		s[i] = byte(' ' + r.Intn('~'-' '+1))
	}
	return string(s)
}

// balancedAmounts returns so many amounts other than 0, at least two, that add up to 0.
func balancedAmounts(r *rand.Rand, length int) []int {
	var amounts []int
	if length%2 == 1 {
		n := 2 + r.Intn(1000)
		amounts = []int{n, -1, 1 - n}
	}
	for len(amounts) < length {
		n := randomAmount(r)
		amounts = append(amounts, n, -n)
	}
	r.Shuffle(len(amounts), func(i, j int) { amounts[i], amounts[j] = amounts[j], amounts[i] })
	return amounts
}

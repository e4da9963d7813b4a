package ledger_test

import (
	"math/rand"
	"slices"
	"testing"

	"tallystone/api"
	"tallystone/journal"
)

// P1, P14.1: every function answers whatever its arguments are, with the first of the errors that the chapter names.
func TestTotality(t *testing.T) {
	r := rand.New(rand.NewSource(6))
	count := map[api.Errno]int{}
	for range 4000 {
		g := sample()
		list := []api.Entry{sale(1, 0, 3, 5), sale(2, 1, 40, 7)}
		spoil(r, &g, list)
		entity, account, p := anyNumber(r), anyNumber(r), anyNumber(r)
		if r.Intn(2) == 0 {
			entity = r.Intn(4)
		}
		if r.Intn(2) == 0 {
			account = 10
		}
		want, dated, listed := errorsOf(g, list, entity, account, p)
		wantErrors(t, "any arguments", g, list, entity, account, p, want, dated, listed)
		count[want]++
	}
	for _, e := range []api.Errno{api.OK, api.ErrArg, api.ErrRange, api.ErrUnknown} {
		if count[e] < 50 {
			t.Errorf("%d calls have the error %d", count[e], e)
		}
	}
}

func anyNumber(r *rand.Rand) int {
	if l := extremes(); r.Intn(3) == 0 {
		return l[r.Intn(len(l))]
	}
	return r.Intn(40)
}

// spoil sometimes changes a number of the group or of the entries to any other one.
func spoil(r *rand.Rand, g *api.Group, list []api.Entry) {
	x, e := &list[r.Intn(2)], &g.Entities[r.Intn(4)]
	fields := []*int{
		&x.ID, &x.Entity, &x.Date, &x.Kind, &x.Of, &x.Lines[0].Account, &x.Lines[1].Amount, &x.Lines[1].Partner,
		&g.Calendar.Year, &g.Calendar.Month, &g.Calendar.Periods, &e.Chart[r.Intn(3)].Code, &e.Chart[r.Intn(3)].Parent, &e.Links[0].From,
	}
	if r.Intn(3) == 0 {
		*fields[r.Intn(len(fields))] = anyNumber(r)
	}
}

// errorsOf returns the errors of the functions with a period, of Balance and of Trial, as the chapter has them, word by word.
func errorsOf(g api.Group, list []api.Entry, entity, account, p int) (periodic, dated, listed api.Errno) {
	if _, e := journal.Check(g, list); e != api.OK {
		return api.ErrArg, api.ErrArg, api.ErrArg
	}
	if entity < 0 || entity >= len(g.Entities) {
		return api.ErrRange, api.ErrRange, api.ErrRange
	}
	if !slices.ContainsFunc(g.Entities[entity].Chart, func(a api.Account) bool { return a.Code == account }) {
		periodic, dated = api.ErrUnknown, api.ErrUnknown
	}
	if p < 0 || p >= g.Calendar.Periods {
		periodic = api.ErrRange
	}
	return periodic, dated, api.OK
}

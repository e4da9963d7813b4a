package carry_test

import (
	"math/rand"
	"testing"

	"tallystone/api"
	"tallystone/carry"
	"tallystone/group"
)

func anyNumber(r *rand.Rand) int {
	if l := extremes(); r.Intn(3) == 0 {
		return l[r.Intn(len(l))]
	}
	return r.Intn(40)
}

// spoil sometimes changes a number of the group or of dated amounts to any other one.
func spoil(r *rand.Rand, g *api.Group, l []carry.Dated) {
	d, e, a := &l[r.Intn(len(l))], &g.Entities[r.Intn(4)], &g.Chart[r.Intn(len(g.Chart))]
	fields := []*int{
		&d.Account, &d.Account, &d.Account, &d.Date, &d.Amount, &d.Amount, &d.Amount, &g.Calendar.Year, &g.Calendar.Month, &g.Calendar.Periods,
		&a.Code, &a.Kind, &a.Basis, &a.Parent, &g.Roles.Retained, &e.Chart[r.Intn(3)].Code, &e.Links[0].From, &e.Links[0].To,
	}
	for range r.Intn(3) {
		*fields[r.Intn(len(fields))] = anyNumber(r)
	}
}

// P1, P15.1: every function answers whatever its arguments are, with the first of the errors that the chapter names.
func TestTotality(t *testing.T) {
	r := rand.New(rand.NewSource(6))
	count := map[api.Errno]int{}
	for range 3000 {
		g := group.Sample()
		l, p := randomDated(r, g, 1+r.Intn(8), 1000), anyNumber(r)
		spoil(r, &g, l)
		count[errorOf(g, l, p)]++
		wantAll(t, g, l, p)
		account, date := anyNumber(r), anyNumber(r)
		if r.Intn(2) == 0 {
			account = 4000 + 100*r.Intn(20)
		}
		want, e := 0, errorOf(g, []carry.Dated{{Account: account}}, p)
		if e == api.OK {
			want = placeOf(g, account, date, p)
		}
		wantPlace(t, g, account, date, p, want, e)
	}
	for _, e := range []api.Errno{api.OK, api.ErrArg, api.ErrRange, api.ErrNone} {
		if count[e] < 100 {
			t.Errorf("%d calls have the error %d", count[e], e)
		}
	}
}

// P1, P15.1: long lists, and the greatest chart, are answered as soon as others.
func TestLongLists(t *testing.T) {
	g := group.Sample()
	for code := 90000; len(g.Chart) < api.MaxAccounts; code++ {
		g.Chart = append(g.Chart, api.Account{Code: code, Kind: api.KindExpense, Basis: api.BasisAverage, Parent: 5000})
	}
	const length = 300000
	last := g.Chart[len(g.Chart)-1].Code
	l := make([]carry.Dated, length)
	for i := range l {
		l[i] = carry.Dated{Account: last, Date: day(2026, 1, 1) + i%730, Amount: 1000000}
	}
	old := 0
	for _, d := range l {
		if d.Date < day(2027, 1, 1) {
			old += d.Amount
		}
	}
	wantCarry(t, g, l, 12, balances(3300, old, last, length*1000000-old), api.OK)
	wantRetained(t, g, l, 12, old, api.OK)
	wantResult(t, g, l, 12, length*1000000-old, api.OK)
	l[length-1].Account = last + 1
	wantLong(t, g, l, api.ErrNone)
	l[length-1] = carry.Dated{Account: last, Amount: most + 1}
	wantLong(t, g, l, api.ErrArg)
}

// wantLong tests the error of a list that is too long to be printed.
func wantLong(t *testing.T, g api.Group, l []carry.Dated, want api.Errno) {
	t.Helper()
	if x := allOf(g, l, 12); !equal(x, all{errors: [3]api.Errno{want, want, want}}) {
		t.Errorf("%v, not the error %d", x, want)
	}
}

package carry_test

import (
	"math"
	"reflect"
	"testing"

	"tallystone/api"
	"tallystone/carry"
	"tallystone/group"
)

// P15.1: a group that is not valid is named first, whatever else is wrong.
func TestInvalidGroup(t *testing.T) {
	for name, change := range map[string]func(g *api.Group){
		"nothing":           func(g *api.Group) { *g = api.Group{} },
		"no entity":         func(g *api.Group) { g.Entities = nil },
		"no periods":        func(g *api.Group) { g.Calendar.Periods = 0 },
		"too many periods":  func(g *api.Group) { g.Calendar.Periods = api.MaxPeriods + 1 },
		"no retained":       func(g *api.Group) { g.Roles.Retained = 0 },
		"one role twice":    func(g *api.Group) { g.Roles.Retained = g.Roles.Owners },
		"a missing account": func(g *api.Group) { g.Chart = g.Chart[1:] },
		"a missing link":    func(g *api.Group) { g.Entities[2].Links[0].To = 999 },
		"two names":         func(g *api.Group) { g.Entities[1].Name = "west" },
		"another kind":      func(g *api.Group) { g.Chart[len(g.Chart)-1].Kind = api.KindIncome },
		"no currency":       func(g *api.Group) { g.Currency = "eur" },
	} {
		g := group.Sample()
		change(&g)
		if group.Valid(g) {
			t.Fatalf("%s: the test is wrong", name)
		}
		for _, p := range []int{0, 35, 36, -1} {
			for _, l := range [][]carry.Dated{nil, dated(1010, 0, 1), dated(9, 0, 1), dated(1010, 0, most+1), dated(1010, 0, most, 1010, 0, most)} {
				wantError(t, g, l, p, api.ErrArg)
			}
			for _, account := range []int{1010, 4000, 9} {
				wantPlace(t, g, account, 0, p, 0, api.ErrArg)
			}
		}
	}
}

// P15.1: a period that there is not is named before an unknown account, an amount that is too great, and a sum.
func TestOutOfRange(t *testing.T) {
	for _, g := range groups() {
		for _, p := range append(extremes(), g.Calendar.Periods, g.Calendar.Periods+12) {
			if 0 <= p && p < g.Calendar.Periods {
				continue
			}
			for _, l := range [][]carry.Dated{nil, dated(1010, 0, 1), dated(9, 0, 1), dated(1010, 0, most+1), dated(9, 0, most+1)} {
				wantError(t, g, l, p, api.ErrRange)
			}
			for _, account := range []int{1010, 4000, 9, 0, math.MinInt} {
				wantPlace(t, g, account, 0, p, 0, api.ErrRange)
			}
		}
		wantPlace(t, g, 1010, 0, 0, 1010, api.OK)
		wantPlace(t, g, 1010, 0, g.Calendar.Periods-1, 1010, api.OK)
	}
}

// P15.1: an account is one of the chart of the group; those of entities are unknown.
func TestUnknownAccounts(t *testing.T) {
	for _, g := range groups() {
		for _, account := range append(extremes(), 10, 140, 1, 2, 3000, 1001, 4001) {
			for _, date := range []int{math.MinInt, math.MaxInt} {
				l := dated(1010, date, 1, account, date, 0)
				want := errorOf(g, l, 0)
				if e := wantAll(t, g, l, 0); e != want {
					t.Errorf("%d: error %d, not %d", account, e, want)
				}
				if want == api.OK {
					wantPlace(t, g, account, date, 0, placeOf(g, account, date, 0), api.OK)
				} else {
					wantPlace(t, g, account, date, 0, 0, api.ErrNone)
				}
			}
		}
	}
}

// P15.1: an unknown account is named before an amount that is too great, wherever they stand, and both before a sum.
func TestOrderOfErrors(t *testing.T) {
	g := group.Sample()
	for _, n := range []int{most + 1, -most - 1, math.MaxInt, math.MinInt, math.MinInt + 1, 1<<62 + 1} {
		wantError(t, g, dated(9, 0, n), 0, api.ErrNone)
		wantError(t, g, dated(9, 0, 1, 4000, 0, n), 0, api.ErrNone)
		wantError(t, g, dated(4000, 0, n, 9, 0, 1), 0, api.ErrNone)
		wantError(t, g, dated(4000, 0, n), 0, api.ErrArg)
		wantError(t, g, dated(4000, 0, n, 4000, 0, -n), 0, api.ErrArg)
		wantError(t, g, dated(1010, 0, 1, 3000, 99999, n), 0, api.ErrArg)
		wantError(t, g, dated(4000, 0, most, 4000, 0, most, 1010, 0, n), 0, api.ErrArg)
		wantError(t, g, dated(4000, 0, most, 4000, 0, most, 9, 0, n), 0, api.ErrNone)
	}
	wantError(t, g, dated(4000, 0, most, 4000, 0, most, 9, 0, 0), 0, api.ErrNone)
}

// P15.1: a sum may be the greatest amount, and not more; it is out of range only where it is returned.
func TestSumsOutOfRange(t *testing.T) {
	g, early, late := group.Sample(), day(2026, 6, 30), day(2027, 6, 30)
	for _, n := range []int{most, -most} {
		one := n / most
		l := dated(4000, late, n, 1010, late, n)
		wantCarry(t, g, l, 12, balances(1010, n, 4000, n), api.OK)
		wantResult(t, g, l, 12, n, api.OK)
		// One account, and the result: nothing is retained.
		l = dated(4000, late, n, 4000, late, one)
		wantCarry(t, g, l, 12, nil, api.ErrRange)
		wantResult(t, g, l, 12, 0, api.ErrRange)
		wantRetained(t, g, l, 12, 0, api.OK)
		// The result of two accounts, each of which is in range.
		l = dated(4000, late, n, 5000, late, one)
		wantCarry(t, g, l, 12, balances(4000, n, 5000, one), api.OK)
		wantResult(t, g, l, 12, 0, api.ErrRange)
		wantRetained(t, g, l, 12, 0, api.OK)
		// In the year after it, both are shown on one account.
		wantCarry(t, g, l, 24, nil, api.ErrRange)
		wantResult(t, g, l, 24, 0, api.OK)
		wantRetained(t, g, l, 24, 0, api.ErrRange)
		// An account that belongs to neither.
		l = dated(1010, early, n, 1010, late, one)
		wantCarry(t, g, l, 12, nil, api.ErrRange)
		wantResult(t, g, l, 12, 0, api.OK)
		wantRetained(t, g, l, 12, 0, api.OK)
		// What is retained is out of range, but not together with the amounts of the account itself.
		l = dated(4000, early, n, 5000, early, one, 3300, late, -one)
		wantCarry(t, g, l, 12, balances(3300, n), api.OK)
		wantResult(t, g, l, 12, 0, api.OK)
		wantRetained(t, g, l, 12, 0, api.ErrRange)
		// The other way round.
		l = dated(4000, early, n, 3300, late, one)
		wantCarry(t, g, l, 12, nil, api.ErrRange)
		wantRetained(t, g, l, 12, n, api.OK)
	}
}

// P15.1: only whole sums matter, not the sums on the way.
func TestSumsOnTheWay(t *testing.T) {
	g, early, late := group.Sample(), day(2026, 6, 30), day(2027, 6, 30)
	var l, back []carry.Dated
	for range 1000 {
		l = append(l, dated(4000, early, most, 5000, late, -most)...)
		back = append(back, dated(5100, early, -most, 5000, late, most)...)
	}
	wantError(t, g, l, 12, api.ErrRange)
	l = append(append(l, back...), dated(4000, early, 7, 5000, late, -8)...)
	wantCarry(t, g, l, 12, balances(3300, 7, 5000, -8), api.OK)
	wantRetained(t, g, l, 12, 7, api.OK)
	wantResult(t, g, l, 12, -8, api.OK)
}

// P15.1: arguments stay as they are, and sums are new each time.
func TestArgumentsStay(t *testing.T) {
	amounts := func() []carry.Dated {
		return dated(5000, day(2027, 1, 1), 3, 4000, day(2026, 12, 31), -7, 1010, day(2026, 5, 5), 4, 4000, day(2027, 1, 1), 0)
	}
	g, l, want := group.Sample(), amounts(), balances(1010, 4, 3300, -7, 5000, 3)
	sums, _ := carry.Carry(g, l, 12)
	wantRetained(t, g, l, 12, -7, api.OK)
	wantResult(t, g, l, 12, 3, api.OK)
	clear(sums[:cap(sums)])
	wantCarry(t, g, l, 12, want, api.OK)
	if !reflect.DeepEqual(g, group.Sample()) || !reflect.DeepEqual(l, amounts()) {
		t.Errorf("the arguments have become %v, %v", g, l)
	}
}

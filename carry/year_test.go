package carry_test

import (
	"math"
	"math/rand"
	"slices"
	"testing"

	"tallystone/api"
	"tallystone/carry"
	"tallystone/group"
)

// all is what the functions of dated amounts return.
type all struct {
	sums             []api.Balance
	result, retained int
	errors           [3]api.Errno
}

func allOf(g api.Group, l []carry.Dated, p int) all {
	var x all
	x.sums, x.errors[0] = carry.Carry(g, l, p)
	x.result, x.errors[1] = carry.Result(g, l, p)
	x.retained, x.errors[2] = carry.Retained(g, l, p)
	return x
}

func equal(a, b all) bool {
	return slices.Equal(a.sums, b.sums) && a.result == b.result && a.retained == b.retained && a.errors == b.errors
}

func sumOfAll(l []carry.Dated) int {
	n := 0
	for _, d := range l {
		n += d.Amount
	}
	return n
}

// P15.2: the sums add up to the sum of all amounts, and so do the result and the sums on all other accounts.
func TestSumsAddUp(t *testing.T) {
	r := rand.New(rand.NewSource(2))
	for range 100 {
		for _, g := range groups() {
			l, p := randomDated(r, g, r.Intn(60), 1000), r.Intn(g.Calendar.Periods)
			x := allOf(g, l, p)
			sum, others := 0, x.result
			for i, b := range x.sums {
				if i > 0 && b.Account <= x.sums[i-1].Account || b.Amount == 0 {
					t.Errorf("the sums are %v", x.sums)
				}
				sum += b.Amount
				if !group.Result(g, b.Account) {
					others += b.Amount
				}
			}
			if want := sumOfAll(l); sum != want || others != want || x.errors != [3]api.Errno{} {
				t.Errorf("%v: %v, %d, not %d", l, x, others, want)
			}
		}
	}
}

// P15.2: the order of amounts changes nothing, and an amount may be parted.
func TestOrder(t *testing.T) {
	r := rand.New(rand.NewSource(3))
	for range 50 {
		for _, g := range groups() {
			l, p := randomDated(r, g, 1+r.Intn(30), []int{1000, most}[r.Intn(2)]), r.Intn(g.Calendar.Periods)
			x := allOf(g, l, p)
			d := &l[r.Intn(len(l))]
			half := d.Amount / 2
			d.Amount -= half
			l = append(l, carry.Dated{Account: d.Account, Date: d.Date, Amount: half})
			r.Shuffle(len(l), func(i, j int) { l[i], l[j] = l[j], l[i] })
			if y := allOf(g, l, p); !equal(x, y) {
				t.Errorf("%v: %v, not %v", l, y, x)
			}
		}
	}
}

// P15.3: all periods of a fiscal year have the same results, errors included.
func TestPeriodsOfYear(t *testing.T) {
	r := rand.New(rand.NewSource(4))
	for range 5 {
		for _, g := range groups() {
			l := randomDated(r, g, r.Intn(30), []int{1000, most}[r.Intn(2)])
			d := randomDated(r, g, 1, 1)[0]
			for p := range g.Calendar.Periods {
				if x, y := allOf(g, l, p), allOf(g, l, p/12*12); !equal(x, y) {
					t.Errorf("the period %d: %v, not %v", p, x, y)
				}
				account, _ := carry.Place(g, d.Account, d.Date, p/12*12)
				wantPlace(t, g, d.Account, d.Date, p, account, api.OK)
			}
		}
	}
}

// P15.3: in the next fiscal year, what is retained is what was retained and the result, if no amounts are of this year.
func TestNextYear(t *testing.T) {
	r := rand.New(rand.NewSource(5))
	different := 0
	for range 20 {
		for _, g := range groups() {
			all := randomDated(r, g, r.Intn(40), 1000)
			for p := range g.Calendar.Periods - 12 {
				next := p/12*12 + 12
				l := slices.DeleteFunc(slices.Clone(all), func(d carry.Dated) bool { return d.Date >= beginOf(g.Calendar, next) })
				x := allOf(g, l, p)
				wantRetained(t, g, l, next, x.retained+x.result, api.OK)
				wantResult(t, g, l, next, 0, api.OK)
				if x.retained != 0 && x.result != 0 {
					different++
				}
			}
		}
	}
	if different < 1000 {
		t.Errorf("only %d periods have a result and something retained", different)
	}
}

// P15.4: amounts on assets, liabilities and equity accounts are shown on their own accounts, whatever their date is.
func TestOwnAccounts(t *testing.T) {
	own := 0
	for _, g := range groups() {
		for _, a := range g.Chart {
			if a.Kind > api.KindEquity {
				continue
			}
			own++
			for _, date := range append(datesOf(g.Calendar), extremes()...) {
				p := g.Calendar.Periods - 1
				wantPlace(t, g, a.Code, date, p, a.Code, api.OK)
				if date%5 == 0 {
					l := dated(a.Code, date, -9)
					wantCarry(t, g, l, p, balances(a.Code, -9), api.OK)
					wantResult(t, g, l, p, 0, api.OK)
					wantRetained(t, g, l, p, 0, api.OK)
				}
			}
		}
	}
	if own < 100 {
		t.Errorf("only %d accounts", own)
	}
}

// P15.4, P15.1: what is not shown on its own account is on the one of retained earnings, which no result is.
func TestRetainedIsNoResult(t *testing.T) {
	for _, g := range groups() {
		for _, a := range g.Chart {
			to, e := carry.Place(g, a.Code, math.MinInt, 0)
			if e != api.OK || group.Result(g, to) || to != a.Code && to != g.Roles.Retained {
				t.Errorf("Place(%d): %d, error %d", a.Code, to, e)
			}
			if group.Result(g, a.Code) != (to != a.Code) {
				t.Errorf("Place(%d): %d", a.Code, to)
			}
		}
	}
}

package lock_test

import (
	"math"
	"math/rand"
	"testing"

	"tallystone/api"
	"tallystone/date"
	"tallystone/group"
	"tallystone/lock"
)

// randomLocks returns different locks of a group.
func randomLocks(r *rand.Rand, g api.Group) []lock.Lock {
	var list []lock.Lock
	for _, k := range r.Perm(len(g.Entities) * g.Calendar.Periods)[:r.Intn(min(9, len(g.Entities)*g.Calendar.Periods+1))] {
		list = append(list, lock.Lock{Entity: k % len(g.Entities), Period: k / len(g.Entities)})
	}
	return list
}

// P13.4: of several locks of an entity, that of the greatest period tells the last day, in whatever order they were added.
func TestGreatest(t *testing.T) {
	for _, c := range calendars() {
		g := with(c)
		for p := range c.Periods {
			for q := range c.Periods {
				if p == q || (p > 3 || q > 3) && p+q != c.Periods-1 {
					continue
				}
				l := newLocks(t, g, lock.Lock{Entity: 2, Period: p}, lock.Lock{Entity: 2, Period: q})
				if day, ok := l.Until(2); day != lastDay(c, max(p, q)) || !ok {
					t.Errorf("with the periods %d and %d of %v, Until is %d, %t", p, q, c, day, ok)
				}
			}
		}
	}
}

// P13.4: for each period of each calendar, its last day is locked and the next one is not.
func TestLastDays(t *testing.T) {
	for _, c := range calendars() {
		g := with(c)
		l := newLocks(t, g)
		for p := range c.Periods {
			wantLock(t, l, 1, p, api.OK)
			wantLocks(t, l, g, []lock.Lock{{Entity: 1, Period: p}})
			wantUnlock(t, l, 1, p, api.OK)
		}
		wantLocks(t, l, g, nil)
	}
}

// P13.3: if a day is locked for an entity, so are all earlier ones, back to the first date and beyond it.
func TestBeginnings(t *testing.T) {
	r := rand.New(rand.NewSource(1))
	for _, c := range calendars() {
		g := with(c)
		list := append(randomLocks(r, g), lock.Lock{Entity: 3, Period: 0})
		l, _ := lock.New(g)
		for _, x := range list {
			l.Lock(x.Entity, x.Period)
		}
		for entity := range g.Entities {
			until, locked := untilOf(c, list, entity)
			for day := date.Min - 50; day <= date.Max+50; day++ {
				want := api.OK
				if locked && day <= until {
					want = api.ErrLocked
				}
				wantCheck(t, l, entity, day, want)
			}
		}
	}
}

// P13.3: a lock changes nothing for other entities.
func TestOtherEntities(t *testing.T) {
	g, r := group.Sample(), rand.New(rand.NewSource(2))
	for range 100 {
		list := randomLocks(r, g)
		l := newLocks(t, g, list...)
		for entity := range g.Entities {
			before := l.Clone()
			l.Lock(entity, r.Intn(g.Calendar.Periods))
			for other := range g.Entities {
				if other == entity {
					continue
				}
				one, ok := before.Until(other)
				two, again := l.Until(other)
				if one != two || ok != again {
					t.Errorf("a lock of %d changes Until(%d) from %d to %d", entity, other, one, two)
				}
				for p := range g.Calendar.Periods {
					if l.Locked(other, p) != before.Locked(other, p) {
						t.Errorf("a lock of %d changes Locked(%d, %d)", entity, other, p)
					}
				}
			}
			l = before
		}
	}
}

// P13.1: an entry is checked by its entity and its date alone; whatever else it is, it need not be valid.
func TestOnlyEntityAndDate(t *testing.T) {
	g := group.Sample()
	l := newLocks(t, g, lock.Lock{Entity: 1, Period: 0})
	day := lastDay(g.Calendar, 0)
	for _, x := range []api.Entry{
		{},
		{ID: -1, Kind: 9, Of: math.MaxInt, Text: "\x00\xff"},
		{ID: 1, Kind: api.EntryReversal, Of: 1, Lines: make([]api.Line, api.MaxLines+1)},
		{ID: 5, Kind: api.EntryNormal, Text: "sale", Lines: []api.Line{{Account: 10, Amount: 5, Partner: -1}, {Account: 100, Amount: -5, Partner: 1}}},
	} {
		for entity, want := range map[int][2]api.Errno{
			1:  {api.ErrLocked, api.OK},
			0:  {api.OK, api.OK},
			3:  {api.OK, api.OK},
			4:  {api.ErrArg, api.ErrArg},
			-1: {api.ErrArg, api.ErrArg},
		} {
			x.Entity = entity
			for i := range 2 {
				x.Date = day + i
				if e := l.Check(x); e != want[i] {
					t.Errorf("the error of %v is %d, not %d", x, e, want[i])
				}
			}
		}
	}
	wantLocks(t, l, g, []lock.Lock{{Entity: 1, Period: 0}})
}

// P13.1: there is no last day for numbers of no entity.
func TestUntilOfNoEntity(t *testing.T) {
	g := group.Sample()
	l := newLocks(t, g)
	for entity := range g.Entities {
		wantLock(t, l, entity, 1, api.OK)
	}
	for _, entity := range extremes() {
		if day, ok := l.Until(entity); (entity < 0 || entity >= 4) && (day != 0 || ok) {
			t.Errorf("Until(%d) is %d, %t", entity, day, ok)
		}
	}
}

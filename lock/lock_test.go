package lock_test

import (
	"math"
	"slices"
	"testing"
	"time"

	"tallystone/api"
	"tallystone/group"
	"tallystone/lock"
)

// calendars returns valid calendars of one, some and the most periods, with different months, leap years, and the first and the
// last dates that there are.
func calendars() []api.Calendar {
	return []api.Calendar{
		group.Sample().Calendar,
		{Year: 2027, Month: 11, Periods: 5},
		{Year: 2026, Month: 4, Periods: 1},
		{Year: 1900, Month: 1, Periods: 30},
		{Year: 2190, Month: 1, Periods: 120},
	}
}

// with returns the sample group with another calendar.
func with(c api.Calendar) api.Group {
	g := group.Sample()
	g.Calendar = c
	return g
}

// lastDay returns the last day of a period, as another implementation counts days.
func lastDay(c api.Calendar, period int) int {
	return int(time.Date(c.Year, time.Month(c.Month+period+1), 0, 0, 0, 0, 0, time.UTC).Unix() / 86400)
}

// extremes returns integers at, next to and far beyond all limits of the layer, and some whose lowest bits are small numbers.
func extremes() []int {
	l := []int{math.MinInt, math.MinInt + 1, math.MaxInt - 1, math.MaxInt, 0, 1 << 32, 1<<32 + 1, -1 << 32, math.MinInt + 1<<32 + 1}
	for _, limit := range []int{1, 2, 4, 12, 36, 120, 20773} {
		l = append(l, limit-1, limit, limit+1, -limit-1, -limit, -limit+1)
	}
	return l
}

// newLocks returns the locks of a valid group.
func newLocks(t *testing.T, g api.Group, list ...lock.Lock) *lock.Locks {
	t.Helper()
	l, e := lock.New(g)
	if e != api.OK || l == nil {
		t.Fatalf("the error of the group is %d", e)
	}
	for _, x := range list {
		wantLock(t, l, x.Entity, x.Period, api.OK)
	}
	return l
}

func wantLock(t *testing.T, l *lock.Locks, entity, period int, want api.Errno) {
	t.Helper()
	if e := l.Lock(entity, period); e != want {
		t.Errorf("Lock(%d, %d) has the error %d, not %d", entity, period, e, want)
	}
}

func wantUnlock(t *testing.T, l *lock.Locks, entity, period int, want api.Errno) {
	t.Helper()
	if e := l.Unlock(entity, period); e != want {
		t.Errorf("Unlock(%d, %d) has the error %d, not %d", entity, period, e, want)
	}
}

func wantCheck(t *testing.T, l *lock.Locks, entity, day int, want api.Errno) {
	t.Helper()
	if e := l.Check(api.Entry{Entity: entity, Date: day}); e != want {
		t.Errorf("the entry of %d on the day %d has the error %d, not %d", entity, day, e, want)
	}
}

// untilOf returns what Until returns for an entity, if there are the locks of a list, as the chapter has it.
func untilOf(c api.Calendar, list []lock.Lock, entity int) (int, bool) {
	day, ok := 0, false
	for _, x := range list {
		if x.Entity == entity && (!ok || lastDay(c, x.Period) > day) {
			day, ok = lastDay(c, x.Period), true
		}
	}
	return day, ok
}

// wantLocks tests everything that locks tell against a list of them, which need not be sorted.
func wantLocks(t *testing.T, l *lock.Locks, g api.Group, list []lock.Lock) {
	t.Helper()
	var sorted []lock.Lock
	for entity := range g.Entities {
		for period := range g.Calendar.Periods {
			locked := slices.Contains(list, lock.Lock{Entity: entity, Period: period})
			if locked {
				sorted = append(sorted, lock.Lock{Entity: entity, Period: period})
			}
			if l.Locked(entity, period) != locked {
				t.Errorf("Locked(%d, %d) is %t", entity, period, !locked)
			}
		}
		wantUntil(t, l, g.Calendar, list, entity)
	}
	if got := l.List(); !slices.Equal(got, sorted) {
		t.Errorf("the locks are %v, not %v", got, sorted)
	}
}

// wantUntil tests the last day that is locked for an entity, and entries on days beside it.
func wantUntil(t *testing.T, l *lock.Locks, c api.Calendar, list []lock.Lock, entity int) {
	t.Helper()
	want, locked := untilOf(c, list, entity)
	day, ok := l.Until(entity)
	if day != want || ok != locked {
		t.Errorf("Until(%d) is %d, %t, not %d, %t", entity, day, ok, want, locked)
	}
	if !locked {
		wantCheck(t, l, entity, math.MinInt, api.OK)
		return
	}
	wantCheck(t, l, entity, math.MinInt, api.ErrLocked)
	wantCheck(t, l, entity, want-1, api.ErrLocked)
	wantCheck(t, l, entity, want, api.ErrLocked)
	wantCheck(t, l, entity, want+1, api.OK)
	wantCheck(t, l, entity, math.MaxInt, api.OK)
}

// P13.1: the locks of a group are none at first.
func TestNew(t *testing.T) {
	for _, c := range calendars() {
		wantLocks(t, newLocks(t, with(c)), with(c), nil)
	}
}

// P13.1: a group that is not valid has no locks.
func TestInvalidGroup(t *testing.T) {
	for name, change := range map[string]func(g *api.Group){
		"nothing":          func(g *api.Group) { *g = api.Group{} },
		"no entity":        func(g *api.Group) { g.Entities = nil },
		"no periods":       func(g *api.Group) { g.Calendar.Periods = 0 },
		"too many periods": func(g *api.Group) { g.Calendar.Periods = api.MaxPeriods + 1 },
		"beyond all dates": func(g *api.Group) { g.Calendar.Year = 2199 },
		"no currency":      func(g *api.Group) { g.Currency = "eur" },
		"two names":        func(g *api.Group) { g.Entities[1].Name = "west" },
		"no role":          func(g *api.Group) { g.Roles.Margin = 0 },
	} {
		g := group.Sample()
		change(&g)
		if l, e := lock.New(g); l != nil || e != api.ErrArg {
			t.Errorf("%s: %v, error %d", name, l, e)
		}
	}
}

// P13.1: the example of the chapter.
func TestExample(t *testing.T) {
	g := group.Sample()
	l := newLocks(t, g, lock.Lock{Entity: 1, Period: 1})
	day := int(time.Date(2026, 2, 28, 0, 0, 0, 0, time.UTC).Unix() / 86400)
	if until, ok := l.Until(1); until != day || !ok {
		t.Errorf("Until is %d, %t", until, ok)
	}
	wantCheck(t, l, 1, day, api.ErrLocked)
	wantCheck(t, l, 1, day+1, api.OK)
	wantLocks(t, l, g, []lock.Lock{{Entity: 1, Period: 1}})
}

// P13.1: locks are only for entities and periods of the group; of two errors, that of the entity comes first.
func TestErrorsOfLock(t *testing.T) {
	for _, c := range calendars() {
		g := with(c)
		list := []lock.Lock{{Entity: 0, Period: 0}, {Entity: 3, Period: c.Periods - 1}}
		l := newLocks(t, g, list...)
		for _, entity := range append(extremes(), 3) {
			for _, period := range append(extremes(), c.Periods, c.Periods+1) {
				noEntity, noPeriod := entity < 0 || entity >= 4, period < 0 || period >= c.Periods
				if noEntity {
					wantLock(t, l, entity, period, api.ErrArg)
				} else if noPeriod {
					wantLock(t, l, entity, period, api.ErrRange)
				}
				if noEntity || noPeriod {
					wantUnlock(t, l, entity, period, api.ErrNone)
					if l.Locked(entity, period) {
						t.Errorf("Locked(%d, %d)", entity, period)
					}
				}
			}
		}
		for _, x := range list {
			wantLock(t, l, x.Entity, x.Period, api.ErrDuplicate)
		}
		wantLocks(t, l, g, list)
	}
}

// P13.1: a group has locks for each of its entities, whether it has one or as many as there may be.
func TestEntities(t *testing.T) {
	for n := 1; n <= api.MaxEntities; n++ {
		g := group.Sample()
		e := g.Entities[0]
		g.Entities = nil
		for i := range n {
			e.Name = string(rune('a' + i))
			g.Entities = append(g.Entities, e)
		}
		l := newLocks(t, g)
		for entity := range n {
			wantLock(t, l, entity, entity, api.OK)
		}
		wantLock(t, l, n, 0, api.ErrArg)
		wantCheck(t, l, n-1, 0, api.ErrLocked)
		wantCheck(t, l, n, 0, api.ErrArg)
	}
}

// P13.1: a lock is taken away once; other locks stay, also those of later and earlier periods.
func TestUnlock(t *testing.T) {
	g := group.Sample()
	l := newLocks(t, g, lock.Lock{Entity: 1, Period: 0}, lock.Lock{Entity: 1, Period: 2}, lock.Lock{Entity: 2, Period: 2})
	for _, x := range []lock.Lock{{Entity: 1, Period: 1}, {Entity: 1, Period: 3}, {Entity: 0, Period: 2}, {Entity: 2, Period: 0}} {
		wantUnlock(t, l, x.Entity, x.Period, api.ErrNone)
	}
	wantLocks(t, l, g, []lock.Lock{{Entity: 1, Period: 0}, {Entity: 1, Period: 2}, {Entity: 2, Period: 2}})
	wantUnlock(t, l, 1, 2, api.OK)
	wantUnlock(t, l, 1, 2, api.ErrNone)
	wantLocks(t, l, g, []lock.Lock{{Entity: 1, Period: 0}, {Entity: 2, Period: 2}})
	wantUnlock(t, l, 1, 0, api.OK)
	wantLocks(t, l, g, []lock.Lock{{Entity: 2, Period: 2}})
	wantUnlock(t, l, 2, 2, api.OK)
	wantLocks(t, l, g, nil)
	wantLock(t, l, 1, 2, api.OK)
	wantLocks(t, l, g, []lock.Lock{{Entity: 1, Period: 2}})
}

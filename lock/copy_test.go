package lock_test

import (
	"reflect"
	"testing"

	"tallystone/api"
	"tallystone/group"
	"tallystone/lock"
)

// P13.1: a copy has the same locks; afterwards, each one goes its own way.
func TestClone(t *testing.T) {
	g := group.Sample()
	list := []lock.Lock{{Entity: 1, Period: 1}, {Entity: 0, Period: 7}}
	for n := range 3 {
		l := newLocks(t, g, list[:n]...)
		c := l.Clone()
		wantLocks(t, c, g, list[:n])
		wantLock(t, l, 2, 3, api.OK)
		wantLocks(t, c, g, list[:n])
		wantLock(t, c, 2, 4, api.OK)
		wantLocks(t, l, g, append([]lock.Lock{{Entity: 2, Period: 3}}, list[:n]...))
		wantLocks(t, c, g, append([]lock.Lock{{Entity: 2, Period: 4}}, list[:n]...))
		wantUnlock(t, c, 2, 4, api.OK)
		wantUnlock(t, l, 2, 3, api.OK)
		for _, x := range list[:n] {
			wantUnlock(t, l, x.Entity, x.Period, api.OK)
		}
		wantLocks(t, l, g, nil)
		wantLocks(t, c, g, list[:n])
	}
}

// P13.1: a copy has the entities and the periods of its group.
func TestCloneGoesOn(t *testing.T) {
	for _, calendar := range calendars() {
		g := with(calendar)
		c := newLocks(t, g).Clone().Clone()
		wantLock(t, c, 4, 0, api.ErrArg)
		wantLock(t, c, 3, calendar.Periods, api.ErrRange)
		wantLock(t, c, 3, calendar.Periods-1, api.OK)
		wantLock(t, c, 3, calendar.Periods-1, api.ErrDuplicate)
		wantCheck(t, c, 4, 0, api.ErrArg)
		wantLocks(t, c, g, []lock.Lock{{Entity: 3, Period: calendar.Periods - 1}})
	}
}

// P13.1: the list of locks is a copy each time.
func TestListIsCopied(t *testing.T) {
	g := group.Sample()
	list := []lock.Lock{{Entity: 0, Period: 2}, {Entity: 1, Period: 1}, {Entity: 3, Period: 35}}
	l := newLocks(t, g, list...)
	one := l.List()
	clear(one[:cap(one)])
	wantLocks(t, l, g, list)
	two := l.List()
	wantUnlock(t, l, 0, 2, api.OK)
	wantLock(t, l, 0, 1, api.OK)
	if !reflect.DeepEqual(two, list) {
		t.Errorf("an earlier list has become %v", two)
	}
}

// P13.1: later changes of the group do not matter, and the group stays as it is.
func TestGroupIsCopied(t *testing.T) {
	g := group.Sample()
	l := newLocks(t, g)
	if !reflect.DeepEqual(g, group.Sample()) {
		t.Errorf("the group was changed to %v", g)
	}
	clear(g.Chart)
	clear(g.Entities)
	g.Entities, g.Calendar = g.Entities[:1], api.Calendar{}
	wantLock(t, l, 3, 35, api.OK)
	wantLocks(t, l, group.Sample(), []lock.Lock{{Entity: 3, Period: 35}})
}

// P13.1: the locks of several groups are independent of each other, and each has its own calendar.
func TestTwoGroups(t *testing.T) {
	one, two := group.Sample(), with(api.Calendar{Year: 2027, Month: 6, Periods: 40})
	two.Entities = two.Entities[:2]
	a, b := newLocks(t, one), newLocks(t, two)
	wantLock(t, a, 2, 5, api.OK)
	wantLock(t, b, 2, 5, api.ErrArg)
	wantLock(t, a, 1, 36, api.ErrRange)
	wantLock(t, b, 1, 36, api.OK)
	wantLocks(t, a, one, []lock.Lock{{Entity: 2, Period: 5}})
	wantLocks(t, b, two, []lock.Lock{{Entity: 1, Period: 36}})
}

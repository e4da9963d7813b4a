package lock_test

import (
	"math/rand"
	"slices"
	"testing"

	"tallystone/api"
	"tallystone/group"
	"tallystone/lock"
)

func anyNumber(r *rand.Rand) int {
	if l := extremes(); r.Intn(3) == 0 {
		return l[r.Intn(len(l))]
	}
	return r.Intn(6) - 1
}

// errorOf returns the error of locking, if there are the locks of a list, as the chapter has it, word by word.
func errorOf(g api.Group, list []lock.Lock, x lock.Lock) api.Errno {
	switch {
	case x.Entity < 0 || x.Entity >= len(g.Entities):
		return api.ErrArg
	case x.Period < 0 || x.Period >= g.Calendar.Periods:
		return api.ErrRange
	case slices.Contains(list, x):
		return api.ErrDuplicate
	}
	return api.OK
}

// P1, P13.1: every function answers whatever its arguments are, and in every state.
func TestTotality(t *testing.T) {
	r := rand.New(rand.NewSource(8))
	for _, c := range calendars() {
		g := with(c)
		l, list := newLocks(t, g), []lock.Lock(nil)
		for range 2000 {
			x := lock.Lock{Entity: anyNumber(r), Period: anyNumber(r)}
			if locked := slices.Contains(list, x); l.Locked(x.Entity, x.Period) != locked {
				t.Errorf("Locked(%d, %d) is %t", x.Entity, x.Period, !locked)
			}
			want := errorOf(g, list, x)
			wantLock(t, l, x.Entity, x.Period, want)
			if want == api.OK {
				list = append(list, x)
			}
			checkAny(t, l, g, list, anyNumber(r), anyNumber(r))
			if y := list; len(y) > 0 && r.Intn(3) == 0 {
				i := r.Intn(len(y))
				wantUnlock(t, l, y[i].Entity, y[i].Period, api.OK)
				list = slices.Delete(list, i, i+1)
			}
		}
		wantLocks(t, l, g, list)
	}
}

// checkAny tests Until and Check for any entity and day.
func checkAny(t *testing.T, l *lock.Locks, g api.Group, list []lock.Lock, entity, day int) {
	t.Helper()
	until, locked := untilOf(g.Calendar, list, entity)
	if got, ok := l.Until(entity); got != until || ok != locked {
		t.Errorf("Until(%d) is %d, %t, not %d, %t", entity, got, ok, until, locked)
	}
	switch {
	case entity < 0 || entity >= len(g.Entities):
		wantCheck(t, l, entity, day, api.ErrArg)
	case locked && day <= until:
		wantCheck(t, l, entity, day, api.ErrLocked)
	default:
		wantCheck(t, l, entity, day, api.OK)
	}
}

// P1, P13.1: without locks of a group, nothing is locked, and nothing can be.
func TestNil(t *testing.T) {
	var l *lock.Locks
	for _, entity := range extremes() {
		for _, period := range extremes() {
			wantLock(t, l, entity, period, api.ErrState)
			wantUnlock(t, l, entity, period, api.ErrState)
			wantCheck(t, l, entity, period, api.ErrState)
			if l.Locked(entity, period) {
				t.Errorf("Locked(%d, %d)", entity, period)
			}
		}
		if day, ok := l.Until(entity); day != 0 || ok {
			t.Errorf("Until(%d) is %d, %t", entity, day, ok)
		}
	}
	if list := l.List(); len(list) != 0 {
		t.Errorf("the locks are %v", list)
	}
	if l.Clone() != nil {
		t.Error("a copy of no locks")
	}
}

// P1: locks that New did not make are those of a group without entities.
func TestZeroValue(t *testing.T) {
	var zero lock.Locks
	for _, l := range []*lock.Locks{&zero, zero.Clone()} {
		for _, n := range extremes() {
			wantLock(t, l, n, 0, api.ErrArg)
			wantUnlock(t, l, n, 0, api.ErrNone)
			wantCheck(t, l, n, 0, api.ErrArg)
		}
		wantLocks(t, l, api.Group{}, nil)
	}
}

// P1, P13.1: a group of the greatest size, in which everything is locked.
func TestGreatGroup(t *testing.T) {
	g := group.Sample()
	g.Calendar.Periods = api.MaxPeriods
	e := g.Entities[0]
	g.Entities = nil
	var list []lock.Lock
	for i := range api.MaxEntities {
		e.Name = string(rune('a' + i))
		g.Entities = append(g.Entities, e)
		for period := range api.MaxPeriods {
			list = append(list, lock.Lock{Entity: i, Period: period})
		}
	}
	wantLocks(t, newLocks(t, g, list...), g, list)
}

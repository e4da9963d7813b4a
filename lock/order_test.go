package lock_test

import (
	"math/rand"
	"slices"
	"testing"

	"tallystone/api"
	"tallystone/group"
	"tallystone/lock"
)

// P13.1, P13.2: all locks of a group are listed in the order of entities and periods, in whatever order they were added.
func TestList(t *testing.T) {
	r := rand.New(rand.NewSource(3))
	for _, c := range calendars() {
		g := with(c)
		l := newLocks(t, g)
		for _, k := range r.Perm(4 * c.Periods) {
			wantLock(t, l, k%4, k/4, api.OK)
		}
		list := l.List()
		if len(list) != 4*c.Periods {
			t.Errorf("%d locks of %v", len(list), c)
		}
		for i, x := range list {
			if x.Entity != i/c.Periods || x.Period != i%c.Periods {
				t.Errorf("the lock %d of %v is %v", i, c, x)
			}
		}
	}
}

// P13.2: the order in which locks are added does not matter.
func TestOrder(t *testing.T) {
	g, r := group.Sample(), rand.New(rand.NewSource(4))
	for range 100 {
		list := randomLocks(r, g)
		one := newLocks(t, g, list...)
		r.Shuffle(len(list), func(i, j int) { list[i], list[j] = list[j], list[i] })
		two := newLocks(t, g, list...)
		wantLocks(t, one, g, list)
		wantLocks(t, two, g, list)
		if a, b := one.List(), two.List(); !slices.Equal(a, b) {
			t.Errorf("%v, but in another order %v", a, b)
		}
	}
}

// P13.2: Lock and Unlock of the same lock, and Unlock and Lock, lead back to the same state.
func TestThereAndBack(t *testing.T) {
	g, r := group.Sample(), rand.New(rand.NewSource(5))
	for range 20 {
		list := randomLocks(r, g)
		l := newLocks(t, g, list...)
		for entity := range g.Entities {
			for period := range g.Calendar.Periods {
				if l.Locked(entity, period) {
					wantUnlock(t, l, entity, period, api.OK)
					wantLock(t, l, entity, period, api.OK)
				} else {
					wantLock(t, l, entity, period, api.OK)
					wantUnlock(t, l, entity, period, api.OK)
				}
			}
			wantLocks(t, l, g, list)
		}
	}
}

// P13.1: a call that returns an error changes nothing.
func TestErrorsChangeNothing(t *testing.T) {
	g, r := group.Sample(), rand.New(rand.NewSource(6))
	for range 50 {
		list := randomLocks(r, g)
		l := newLocks(t, g, list...)
		for range 20 {
			x := lock.Lock{Entity: r.Intn(6) - 1, Period: r.Intn(38) - 1}
			if slices.Contains(list, x) {
				wantLock(t, l, x.Entity, x.Period, api.ErrDuplicate)
			} else {
				wantUnlock(t, l, x.Entity, x.Period, api.ErrNone)
			}
		}
		wantLocks(t, l, g, list)
	}
}

// P13.1, P13.2: locks that are added and removed by chance are those of a list to which the same happens.
func TestChance(t *testing.T) {
	r := rand.New(rand.NewSource(7))
	for _, c := range calendars() {
		g := with(c)
		l, list := newLocks(t, g), []lock.Lock(nil)
		for step := range 1500 {
			x := lock.Lock{Entity: r.Intn(4), Period: r.Intn(min(c.Periods, 12))}
			i := slices.Index(list, x)
			switch r.Intn(3) {
			case 0:
				l = l.Clone()
			case 1:
				if i < 0 {
					wantLock(t, l, x.Entity, x.Period, api.OK)
					list = append(list, x)
				} else {
					wantLock(t, l, x.Entity, x.Period, api.ErrDuplicate)
				}
			default:
				if i < 0 {
					wantUnlock(t, l, x.Entity, x.Period, api.ErrNone)
				} else {
					wantUnlock(t, l, x.Entity, x.Period, api.OK)
					list = slices.Delete(list, i, i+1)
				}
			}
			if step%10 == 0 {
				wantLocks(t, l, g, list)
			}
		}
		wantLocks(t, l, g, list)
	}
}

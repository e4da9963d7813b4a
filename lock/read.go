package lock

import (
	"cmp"
	"maps"
	"slices"

	"tallystone/api"
	"tallystone/calendar"
)

// Locked reports whether a period is locked for an entity.
func (l *Locks) Locked(entity, period int) bool {
	return l != nil && l.locks[Lock{entity, period}]
}

// Until returns the last day that is locked for an entity.
func (l *Locks) Until(entity int) (int, bool) {
	if l == nil {
		return 0, false
	}
	for period := l.calendar.Periods - 1; period >= 0; period-- {
		if l.Locked(entity, period) {
			last, e := calendar.Last(l.calendar, period)
			return last, e == api.OK
		}
	}
	return 0, false
}

// Check returns ErrLocked if an entry may not be posted.
func (l *Locks) Check(x api.Entry) api.Errno {
	if l == nil {
		return api.ErrState
	}
	if !l.isEntity(x.Entity) {
		return api.ErrArg
	}
	if last, ok := l.Until(x.Entity); ok && x.Date <= last {
		return api.ErrLocked
	}
	return api.OK
}

// List returns all locks.
func (l *Locks) List() []Lock {
	if l == nil {
		return nil
	}
	list := slices.Collect(maps.Keys(l.locks))
	slices.SortFunc(list, compare)
	return list
}

// compare puts locks into the order of entities, and those of an entity into the order of periods.
func compare(a, b Lock) int {
	return cmp.Or(cmp.Compare(a.Entity, b.Entity), cmp.Compare(a.Period, b.Period))
}

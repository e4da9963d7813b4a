package group_test

import (
	"math/rand"
	"testing"

	"tallystone/api"
	"tallystone/calendar"
	"tallystone/group"
)

// P10.2: a valid group is valid without its last entities, down to one, and its entities are found by their names.
func TestWithoutLastEntity(t *testing.T) {
	r := rand.New(rand.NewSource(3))
	for range 300 {
		g := randomGroup(r)
		for len(g.Entities) > 0 {
			wantValid(t, "without the last entities", g, true)
			for i, e := range g.Entities {
				wantFind(t, g, e.Name, i, true)
			}
			last := len(g.Entities) - 1
			name := g.Entities[last].Name
			g.Entities = g.Entities[:last]
			wantFind(t, g, name, 0, false)
		}
		wantValid(t, "without entities", g, false)
	}
}

// P10.2: a valid group is valid with two entities exchanged, unless the parent would be Joint.
func TestExchangedEntities(t *testing.T) {
	r := rand.New(rand.NewSource(4))
	for range 300 {
		g := randomGroup(r)
		i, j := r.Intn(len(g.Entities)), r.Intn(len(g.Entities))
		exchanged := clone(g)
		exchanged.Entities[i], exchanged.Entities[j] = g.Entities[j], g.Entities[i]
		wantValid(t, "with two entities exchanged", exchanged, !exchanged.Entities[0].Joint)
		if i > 0 && j > 0 {
			wantValid(t, "with two entities exchanged, without the parent", exchanged, true)
		}
		wantFind(t, exchanged, g.Entities[i].Name, j, true)
		wantFind(t, exchanged, g.Entities[j].Name, i, true)
		currencies := group.Currencies(g)
		wantCurrencies(t, exchanged, currencies...)
	}
}

// P10.4: a valid group with another calendar is valid exactly if the calendar is.
func TestCalendars(t *testing.T) {
	calendars := []api.Calendar{
		{Year: 1900, Month: 1, Periods: 1}, {Year: 2199, Month: 12, Periods: 1}, {Year: 2190, Month: 1, Periods: 120}, {Year: 2026, Month: 12, Periods: 120},
		{}, {Year: 1899, Month: 12, Periods: 36}, {Year: 2200, Month: 1, Periods: 1}, {Year: 2026, Month: 0, Periods: 36}, {Year: 2026, Month: 13, Periods: 36},
		{Year: 2026, Month: 1}, {Year: 2026, Month: 1, Periods: -1}, {Year: 2026, Month: 1, Periods: 121}, {Year: 2190, Month: 2, Periods: 120},
	}
	for _, n := range extremes() {
		calendars = append(calendars, api.Calendar{Year: n, Month: 1, Periods: 36}, api.Calendar{Year: 2026, Month: n, Periods: 36}, api.Calendar{Year: 2026, Month: 1, Periods: n})
	}
	r := rand.New(rand.NewSource(6))
	for range 100 {
		calendars = append(calendars, randomCalendar(r))
	}
	valid := 0
	for _, c := range calendars {
		if calendar.Valid(c) {
			valid++
		}
		for _, g := range []api.Group{group.Sample(), small(), randomGroup(r)} {
			wantChanged(t, "another calendar", g, calendar.Valid(c), func(g *api.Group) { g.Calendar = c })
		}
	}
	if valid < 100 || valid > len(calendars)-100 {
		t.Errorf("%d of %d calendars are valid", valid, len(calendars))
	}
}

// P10.1: groups of chance of which one field was changed are valid exactly as another implementation says.
func TestChangedGroups(t *testing.T) {
	r := rand.New(rand.NewSource(7))
	valid := 0
	for range 4000 {
		g := randomGroup(r)
		changeField(r, &g)
		want := isValid(g)
		wantValid(t, "a changed group of chance", g, want)
		if want {
			valid++
		}
	}
	if valid < 400 || valid > 3600 {
		t.Errorf("%d changed groups are valid", valid)
	}
}

// changeField changes something in a group that has accounts and entities.
func changeField(r *rand.Rand, g *api.Group) {
	a, b := &g.Chart[r.Intn(len(g.Chart))], &g.Chart[r.Intn(len(g.Chart))]
	e, other := &g.Entities[r.Intn(len(g.Entities))], &g.Entities[r.Intn(len(g.Entities))]
	roles := fields(&g.Roles)
	switch r.Intn(10) {
	case 0:
		a.Kind = 1 + r.Intn(5)
	case 1:
		a.Basis = 1 + r.Intn(3)
	case 2:
		a.Parent = b.Code
	case 3:
		*roles[r.Intn(15)].code = a.Code
	case 4:
		i, j := roles[r.Intn(15)].code, roles[r.Intn(15)].code
		*i, *j = *j, *i
	case 5:
		e.Name = other.Name
	case 6:
		e.Joint = !e.Joint
	case 7:
		e.Links = append(e.Links, other.Links...)
	case 8, 9:
		if len(e.Links) > 0 {
			e.Links[r.Intn(len(e.Links))].To = a.Code
		}
	}
}

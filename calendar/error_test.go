package calendar_test

import (
	"math"
	"testing"

	"tallystone/api"
	"tallystone/calendar"
	"tallystone/date"
)

// wantErrors tests that all functions of a calendar and a period return an error, and that the period has no name.
func wantErrors(t *testing.T, c api.Calendar, p int, want api.Errno) {
	t.Helper()
	wantError(t, "First", calendar.First, c, p, want)
	wantError(t, "Last", calendar.Last, c, p, want)
	wantError(t, "Year", calendar.Year, c, p, want)
	wantError(t, "Begin", calendar.Begin, c, p, want)
	wantError(t, "Before", calendar.Before, c, p, want)
	if name := calendar.Name(c, p); name != "" {
		t.Errorf("Name(%v, %d) is %q", c, p, name)
	}
}

// P7.1: a calendar that is not valid is named first, whatever the period or the date is.
func TestInvalidCalendar(t *testing.T) {
	for _, c := range invalid() {
		for _, n := range []int{0, 1, 11, 12, 23, 24, 120, -1, 20773, date.Min, date.Max, date.Min - 1, date.Max + 1, math.MinInt, math.MaxInt} {
			wantErrors(t, c, n, api.ErrArg)
			wantError(t, "Period", calendar.Period, c, n, api.ErrArg)
		}
	}
}

// P7.1: a period that a calendar does not have is named behind it, and before the lack of an earlier fiscal year.
func TestInvalidPeriod(t *testing.T) {
	for _, c := range []api.Calendar{example(), {Year: 2026, Month: 12, Periods: 1}, {Year: 2026, Month: 1, Periods: 11}, {Year: 2026, Month: 1, Periods: 12}, {Year: 1900, Month: 1, Periods: 120}, {Year: 2190, Month: 1, Periods: 120}} {
		for _, p := range []int{-1, -2, -11, -12, -13, -120, c.Periods, c.Periods + 1, c.Periods + 11, c.Periods + 12, 2026, math.MinInt, math.MaxInt, 1 << 32, 1<<32 + 3, -1 << 32, math.MinInt + 12} {
			wantErrors(t, c, p, api.ErrRange)
		}
	}
}

// P1, P7.1: every function answers whatever its arguments are, with no other result beside an error.
func TestTotality(t *testing.T) {
	wantNone := func(n int, e api.Errno) {
		t.Helper()
		if e != api.OK && (e != api.ErrArg && e != api.ErrRange && e != api.ErrNone || n != 0) {
			t.Errorf("%d, error %d", n, e)
		}
	}
	check := func(c api.Calendar, n int) {
		t.Helper()
		_, e := calendar.First(c, n)
		if (e == api.ErrArg) == calendar.Valid(c) || (e == api.OK) == (calendar.Name(c, n) == "") {
			t.Errorf("First(%v, %d): error %d", c, n, e)
		}
		wantNone(calendar.First(c, n))
		wantNone(calendar.Last(c, n))
		wantNone(calendar.Period(c, n))
		wantNone(calendar.Year(c, n))
		wantNone(calendar.Begin(c, n))
		wantNone(calendar.Before(c, n))
	}
	for _, y := range extremes() {
		for _, m := range extremes() {
			for _, periods := range extremes() {
				check(api.Calendar{Year: y, Month: m, Periods: periods}, periods-1)
				check(api.Calendar{Year: y, Month: m, Periods: periods}, m)
			}
		}
	}
	for _, n := range extremes() {
		for _, c := range append(invalid(), example()) {
			check(c, n)
		}
	}
}

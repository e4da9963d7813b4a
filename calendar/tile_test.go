package calendar_test

import (
	"testing"
	"time"

	"tallystone/api"
	"tallystone/calendar"
	"tallystone/date"
)

// starts returns calendars that begin with all months with dates, with as many periods as they can have.
func starts() []api.Calendar {
	var l []api.Calendar
	for y := 1900; y <= 2199; y++ {
		for m := 1; m <= 12; m++ {
			l = append(l, api.Calendar{Year: y, Month: m, Periods: min(120, 12*(2200-y)-m+1)})
		}
	}
	return l
}

// some returns some of all longest calendars: those at both limits, and others with all months.
func some() []api.Calendar {
	l, all := []api.Calendar{example()}, starts()
	for i, c := range all {
		if i < 13 || i%53 == 0 || i >= len(all)-150 {
			l = append(l, c)
		}
	}
	return l
}

// days returns the number of days from 1970-01-01 to a day, as another implementation counts them.
func days(y, m, d int) int {
	return int(time.Date(y, time.Month(m), d, 0, 0, 0, 0, time.UTC).Unix() / 86400)
}

// P7.1: all periods of the longest calendars, compared with another implementation.
func TestAllPeriods(t *testing.T) {
	for _, c := range starts() {
		for p := range c.Periods {
			first, last := days(c.Year, c.Month+p, 1), days(c.Year, c.Month+p+1, 0)
			if n, e := calendar.First(c, p); n != first || e != api.OK {
				t.Errorf("First(%v, %d): %s, error %d, not %s", c, p, date.Text(n), e, date.Text(first))
			}
			if n, e := calendar.Last(c, p); n != last || e != api.OK {
				t.Errorf("Last(%v, %d): %s, error %d, not %s", c, p, date.Text(n), e, date.Text(last))
			}
		}
	}
}

// P7.1: the names of all periods of some calendars, compared with another implementation.
func TestAllNames(t *testing.T) {
	for _, c := range some() {
		for p := range c.Periods {
			want := time.Date(c.Year, time.Month(c.Month+p), 1, 0, 0, 0, 0, time.UTC).Format("2006-01")
			if name := calendar.Name(c, p); name != want {
				t.Errorf("Name(%v, %d) is %q, not %q", c, p, name, want)
			}
		}
	}
}

// P7.2: each period ends, not before it begins, on the day before the next one begins.
func TestTiles(t *testing.T) {
	for _, c := range some() {
		next := days(c.Year, c.Month, 1)
		for p := range c.Periods {
			first, last := must(t, calendar.First, c, p), must(t, calendar.Last, c, p)
			if first != next || last < first {
				t.Errorf("the period %d of %v is from %s to %s, and %s is next", p, c, date.Text(first), date.Text(last), date.Text(next))
			}
			next = last + 1
		}
	}
}

// P7.2: a date lies in a period exactly if it is from its first to its last day; in none exactly if it is in no period.
func TestPeriodOfDates(t *testing.T) {
	for _, c := range some() {
		begin, end := must(t, calendar.First, c, 0), must(t, calendar.Last, c, c.Periods-1)
		for n := begin - 70; n <= end+70; n++ {
			p, e := calendar.Period(c, n)
			if n < begin || n > end {
				if p != 0 || e != api.ErrRange {
					t.Errorf("Period(%v, %s): %d, error %d", c, date.Text(n), p, e)
				}
				continue
			}
			if e != api.OK || n < must(t, calendar.First, c, p) || n > must(t, calendar.Last, c, p) {
				t.Errorf("Period(%v, %s): %d, error %d", c, date.Text(n), p, e)
			}
		}
	}
}

// P7.2: all dates and the numbers next to them, in one calendar.
func TestPeriodOfAllDates(t *testing.T) {
	c := example()
	begin, end := must(t, calendar.First, c, 0), must(t, calendar.Last, c, 23)
	for n := date.Min - 400; n <= date.Max+400; n++ {
		p, e := calendar.Period(c, n)
		if (e == api.OK) != (begin <= n && n <= end) || e != api.OK && (e != api.ErrRange || p != 0) {
			t.Errorf("Period of %s: %d, error %d", date.Text(n), p, e)
		}
	}
}

// P7.3: fiscal years are runs of 12 periods, of which the last one may be shorter; all periods of a year have the same
// begin, and begin with it or later.
func TestYears(t *testing.T) {
	for _, c := range some() {
		counts := map[int]int{}
		year, begin := -1, 0
		for p := range c.Periods {
			y := must(t, calendar.Year, c, p)
			if y != year {
				if y != year+1 || year >= 0 && counts[year] != 12 {
					t.Errorf("Year(%v, %d) is %d after %d periods of the year %d", c, p, y, counts[year], year)
				}
				year, begin = y, must(t, calendar.First, c, p)
			}
			counts[y]++
			if n := must(t, calendar.Begin, c, p); n != begin || n > must(t, calendar.First, c, p) {
				t.Errorf("Begin(%v, %d) is %s, not %s", c, p, date.Text(n), date.Text(begin))
			}
		}
		for y, count := range counts {
			if count > 12 {
				t.Errorf("%v has %d periods in the year %d", c, count, y)
			}
		}
	}
}

// P7.3: the day before a fiscal year is the last one of the period before it, which is of the year before; there is none
// exactly in the year 0.
func TestDayBeforeYears(t *testing.T) {
	for _, c := range some() {
		for p := range c.Periods {
			before, e := calendar.Before(c, p)
			year := must(t, calendar.Year, c, p)
			if (e == api.OK) != (year > 0) || e != api.OK && (e != api.ErrNone || before != 0) {
				t.Errorf("Before(%v, %d): %d, error %d, in the year %d", c, p, before, e, year)
			}
			if e != api.OK {
				continue
			}
			if must(t, calendar.Last, c, before) != must(t, calendar.Begin, c, p)-1 || must(t, calendar.Year, c, before) != year-1 {
				t.Errorf("Before(%v, %d) is %d", c, p, before)
			}
		}
	}
}

// P7.4: the first periods of a calendar with more of them have the same days, years, begins and names.
func TestMorePeriods(t *testing.T) {
	for _, long := range []api.Calendar{{Year: 1900, Month: 1, Periods: 120}, {Year: 2190, Month: 1, Periods: 120}, {Year: 2026, Month: 4, Periods: 120}, {Year: 1995, Month: 12, Periods: 120}} {
		for periods := 1; periods < long.Periods; periods++ {
			short := long
			short.Periods = periods
			for p := range periods {
				for i, f := range []func(api.Calendar, int) (int, api.Errno){calendar.First, calendar.Last, calendar.Year, calendar.Begin, calendar.Before} {
					n, e := f(short, p)
					if m, g := f(long, p); n != m || e != g {
						t.Errorf("function %d of %v, %d: %d, error %d, but %d, error %d with more periods", i, short, p, n, e, m, g)
					}
				}
				if calendar.Name(short, p) != calendar.Name(long, p) {
					t.Errorf("Name(%v, %d) is %q, but %q with more periods", short, p, calendar.Name(short, p), calendar.Name(long, p))
				}
			}
		}
	}
}

// P7.4: a calendar that begins some months later has the same periods with lower numbers.
func TestLaterCalendars(t *testing.T) {
	for _, c := range []api.Calendar{{Year: 1900, Month: 1, Periods: 120}, {Year: 2190, Month: 1, Periods: 120}, example(), {Year: 1995, Month: 12, Periods: 119}} {
		for k := range c.Periods {
			start := time.Date(c.Year, time.Month(c.Month+k), 1, 0, 0, 0, 0, time.UTC)
			later := api.Calendar{Year: start.Year(), Month: int(start.Month()), Periods: c.Periods - k}
			for p := range later.Periods {
				first, last := must(t, calendar.First, later, p), must(t, calendar.Last, later, p)
				if first != must(t, calendar.First, c, p+k) || last != must(t, calendar.Last, c, p+k) {
					t.Errorf("the period %d of %v is not the period %d of %v", p, later, p+k, c)
				}
				if calendar.Name(later, p) != calendar.Name(c, p+k) {
					t.Errorf("Name(%v, %d) is %q", later, p, calendar.Name(later, p))
				}
				if must(t, calendar.Period, later, first) != p || must(t, calendar.Period, later, last) != p {
					t.Errorf("the days of the period %d of %v are not in it", p, later)
				}
			}
		}
	}
}

package calendar_test

import (
	"math"
	"testing"

	"tallystone/api"
	"tallystone/calendar"
	"tallystone/date"
)

// extremes returns integers at, next to and far beyond all limits of the layer, small ones, and some whose lowest 32 bits
// are years, months or periods.
func extremes() []int {
	l := []int{math.MinInt, math.MinInt + 1, math.MaxInt - 1, math.MaxInt, 0, 1<<32 + 2026, 1<<32 + 4, 1<<40 + 24, -1<<32 + 11, math.MinInt + 2026}
	for _, limit := range []int{1, 12, 24, 120, 1900, 2026, 2199, 1 << 32, math.MaxInt / 12} {
		l = append(l, limit-1, limit, limit+1, -limit-1, -limit, -limit+1)
	}
	return l
}

// example returns the calendar of the examples of the chapter.
func example() api.Calendar {
	return api.Calendar{Year: 2026, Month: 4, Periods: 24}
}

// invalid returns calendars of which each breaks one rule, or several.
func invalid() []api.Calendar {
	return []api.Calendar{
		{}, {Year: 2026}, {Month: 4}, {Periods: 24}, {Year: 2026, Month: 4}, {Year: 2026, Periods: 24}, {Month: 4, Periods: 24},
		{Year: 2026, Month: 0, Periods: 24}, {Year: 2026, Month: 13, Periods: 24}, {Year: 2026, Month: -1, Periods: 24}, {Year: 2026, Month: 16, Periods: 24},
		{Year: 2026, Month: 4, Periods: 0}, {Year: 2026, Month: 4, Periods: -1}, {Year: 2026, Month: 4, Periods: 121}, {Year: 2026, Month: 4, Periods: -24},
		{Year: 1899, Month: 4, Periods: 24}, {Year: 1899, Month: 12, Periods: 2}, {Year: 1899, Month: 12, Periods: 120}, {Year: 0, Month: 4, Periods: 24},
		{Year: 2200, Month: 1, Periods: 1}, {Year: 2199, Month: 12, Periods: 2}, {Year: 2190, Month: 2, Periods: 120}, {Year: 2199, Month: 1, Periods: 13},
		{Year: -2026, Month: 4, Periods: 24}, {Year: 2026, Month: -4, Periods: 24}, {Year: 26, Month: 4, Periods: 24}, {Year: 2027, Month: -8, Periods: 24},
		{Year: math.MaxInt, Month: 4, Periods: 24}, {Year: math.MinInt, Month: 4, Periods: 24}, {Year: 2026, Month: math.MaxInt, Periods: 24},
		{Year: 2026, Month: math.MinInt, Periods: 24}, {Year: 2026, Month: 4, Periods: math.MaxInt}, {Year: 2026, Month: 4, Periods: math.MinInt},
		{Year: 1<<32 + 2026, Month: 4, Periods: 24}, {Year: 2026, Month: 1<<32 + 4, Periods: 24}, {Year: 2026, Month: 4, Periods: 1<<32 + 24},
		{Year: 1<<62 + 2026, Month: 4, Periods: 24}, {Year: 2026 - 1<<62, Month: 4, Periods: 24}, {Year: math.MaxInt, Month: math.MaxInt, Periods: math.MaxInt},
	}
}

// parse returns a date that a test knows to be there.
func parse(t *testing.T, s string) int {
	t.Helper()
	n, e := date.Parse(s)
	if e != api.OK {
		t.Fatalf("Parse(%q): error %d", s, e)
	}
	return n
}

// must returns the result of a function of a calendar and a number where a test knows that there is one.
func must(t *testing.T, f func(api.Calendar, int) (int, api.Errno), c api.Calendar, n int) int {
	t.Helper()
	result, e := f(c, n)
	if e != api.OK {
		t.Fatalf("%v, %d: error %d", c, n, e)
	}
	return result
}

// wantError tests that a function of a calendar and a number returns an error and no result.
func wantError(t *testing.T, what string, f func(api.Calendar, int) (int, api.Errno), c api.Calendar, n int, want api.Errno) {
	t.Helper()
	if got, e := f(c, n); got != 0 || e != want {
		t.Errorf("%s(%v, %d): %d, error %d, not error %d", what, c, n, got, e, want)
	}
}

// P7.1: all limits, and calendars beyond them.
func TestValid(t *testing.T) {
	for _, c := range []api.Calendar{
		example(), {Year: 2026, Month: 1, Periods: 12}, {Year: 2026, Month: 12, Periods: 1}, {Year: 2026, Month: 1, Periods: 1}, {Year: 2026, Month: 1, Periods: 120},
		{Year: 2026, Month: 12, Periods: 120}, {Year: 1900, Month: 1, Periods: 1}, {Year: 1900, Month: 1, Periods: 120}, {Year: 1900, Month: 12, Periods: 13},
		{Year: 2199, Month: 12, Periods: 1}, {Year: 2199, Month: 1, Periods: 12}, {Year: 2199, Month: 2, Periods: 11}, {Year: 2190, Month: 1, Periods: 120},
		{Year: 2190, Month: 2, Periods: 119}, {Year: 2189, Month: 12, Periods: 120}, {Year: 2198, Month: 12, Periods: 13}, {Year: 2198, Month: 1, Periods: 24},
	} {
		if !calendar.Valid(c) {
			t.Errorf("%v is not valid", c)
		}
	}
	for _, c := range invalid() {
		if calendar.Valid(c) {
			t.Errorf("%v is valid", c)
		}
	}
}

// P7.1: all years, months and numbers of periods about their limits, compared with the definition.
func TestValidOfAll(t *testing.T) {
	for y := 1885; y <= 2215; y++ {
		for m := -3; m <= 16; m++ {
			for periods := -3; periods <= 125; periods++ {
				c := api.Calendar{Year: y, Month: m, Periods: periods}
				// The months left in the years with dates, from the first one on.
				left := 12*(2199-y) + 12 - m + 1
				want := 1 <= m && m <= 12 && 1 <= periods && periods <= 120 && 1900 <= y && y <= 2199 && periods <= left
				if calendar.Valid(c) != want {
					t.Errorf("Valid(%v) is not %t", c, want)
				}
			}
		}
	}
}

// P7.1: the examples, months of every length, the ends of years, and the first and the last date.
func TestFirstAndLast(t *testing.T) {
	whole := api.Calendar{Year: 2026, Month: 1, Periods: 12}
	for _, x := range []struct {
		c           api.Calendar
		p           int
		first, last string
	}{
		{example(), 0, "2026-04-01", "2026-04-30"}, {example(), 8, "2026-12-01", "2026-12-31"}, {example(), 9, "2027-01-01", "2027-01-31"},
		{example(), 10, "2027-02-01", "2027-02-28"}, {example(), 11, "2027-03-01", "2027-03-31"}, {example(), 12, "2027-04-01", "2027-04-30"},
		{example(), 22, "2028-02-01", "2028-02-29"}, {example(), 23, "2028-03-01", "2028-03-31"},
		{whole, 0, "2026-01-01", "2026-01-31"}, {whole, 1, "2026-02-01", "2026-02-28"}, {whole, 2, "2026-03-01", "2026-03-31"}, {whole, 3, "2026-04-01", "2026-04-30"},
		{whole, 4, "2026-05-01", "2026-05-31"}, {whole, 5, "2026-06-01", "2026-06-30"}, {whole, 6, "2026-07-01", "2026-07-31"}, {whole, 7, "2026-08-01", "2026-08-31"},
		{whole, 8, "2026-09-01", "2026-09-30"}, {whole, 9, "2026-10-01", "2026-10-31"}, {whole, 10, "2026-11-01", "2026-11-30"}, {whole, 11, "2026-12-01", "2026-12-31"},
		{api.Calendar{Year: 2026, Month: 12, Periods: 2}, 0, "2026-12-01", "2026-12-31"}, {api.Calendar{Year: 2026, Month: 12, Periods: 2}, 1, "2027-01-01", "2027-01-31"},
		{api.Calendar{Year: 1900, Month: 1, Periods: 120}, 0, "1900-01-01", "1900-01-31"}, {api.Calendar{Year: 1900, Month: 1, Periods: 120}, 1, "1900-02-01", "1900-02-28"},
		{api.Calendar{Year: 1900, Month: 1, Periods: 120}, 119, "1909-12-01", "1909-12-31"}, {api.Calendar{Year: 2190, Month: 1, Periods: 120}, 119, "2199-12-01", "2199-12-31"},
		{api.Calendar{Year: 2199, Month: 12, Periods: 1}, 0, "2199-12-01", "2199-12-31"}, {api.Calendar{Year: 1990, Month: 3, Periods: 120}, 119, "2000-02-01", "2000-02-29"},
		{api.Calendar{Year: 2095, Month: 6, Periods: 120}, 56, "2100-02-01", "2100-02-28"},
	} {
		if n := must(t, calendar.First, x.c, x.p); date.Text(n) != x.first {
			t.Errorf("First(%v, %d) is %s, not %s", x.c, x.p, date.Text(n), x.first)
		}
		if n := must(t, calendar.Last, x.c, x.p); date.Text(n) != x.last {
			t.Errorf("Last(%v, %d) is %s, not %s", x.c, x.p, date.Text(n), x.last)
		}
		if name := calendar.Name(x.c, x.p); name != x.first[:7] {
			t.Errorf("Name(%v, %d) is %q, not %q", x.c, x.p, name, x.first[:7])
		}
	}
}

// P7.1: the first, the last and other days of periods, and dates in no period, on both sides, also next to a period.
func TestPeriod(t *testing.T) {
	for _, x := range []struct {
		c    api.Calendar
		day  string
		want int
		e    api.Errno
	}{
		{example(), "2026-04-01", 0, api.OK}, {example(), "2026-04-02", 0, api.OK}, {example(), "2026-04-30", 0, api.OK}, {example(), "2026-05-01", 1, api.OK},
		{example(), "2026-12-31", 8, api.OK}, {example(), "2027-01-01", 9, api.OK}, {example(), "2027-03-31", 11, api.OK}, {example(), "2027-04-01", 12, api.OK},
		{example(), "2028-02-29", 22, api.OK}, {example(), "2028-03-01", 23, api.OK}, {example(), "2028-03-31", 23, api.OK},
		{example(), "2028-04-01", 0, api.ErrRange}, {example(), "2026-03-31", 0, api.ErrRange}, {example(), "2026-03-01", 0, api.ErrRange}, {example(), "2026-02-15", 0, api.ErrRange},
		{example(), "2025-04-15", 0, api.ErrRange}, {example(), "2030-04-15", 0, api.ErrRange}, {example(), "1900-01-01", 0, api.ErrRange}, {example(), "2199-12-31", 0, api.ErrRange},
		{api.Calendar{Year: 1900, Month: 1, Periods: 120}, "1900-01-01", 0, api.OK}, {api.Calendar{Year: 1900, Month: 1, Periods: 120}, "1909-12-31", 119, api.OK},
		{api.Calendar{Year: 1900, Month: 1, Periods: 120}, "1910-01-01", 0, api.ErrRange}, {api.Calendar{Year: 2190, Month: 1, Periods: 120}, "2199-12-31", 119, api.OK},
		{api.Calendar{Year: 2190, Month: 1, Periods: 120}, "2189-12-31", 0, api.ErrRange}, {api.Calendar{Year: 2026, Month: 12, Periods: 1}, "2026-12-01", 0, api.OK},
		{api.Calendar{Year: 2026, Month: 12, Periods: 1}, "2027-01-01", 0, api.ErrRange}, {api.Calendar{Year: 2026, Month: 12, Periods: 1}, "2026-11-30", 0, api.ErrRange},
	} {
		if p, e := calendar.Period(x.c, parse(t, x.day)); p != x.want || e != x.e {
			t.Errorf("Period(%v, %s): %d, error %d, not %d, error %d", x.c, x.day, p, e, x.want, x.e)
		}
	}
}

// P7.1: numbers that are no dates lie in no period, also next to the first and the last date.
func TestPeriodOfNoDate(t *testing.T) {
	for _, c := range []api.Calendar{example(), {Year: 1900, Month: 1, Periods: 120}, {Year: 2190, Month: 1, Periods: 120}, {Year: 1970, Month: 1, Periods: 120}} {
		for _, n := range []int{date.Min - 1, date.Max + 1, date.Min - 40, date.Max + 40, math.MinInt, math.MaxInt, 1 << 32, -1 << 32, 1<<32 + 20773} {
			wantError(t, "Period", calendar.Period, c, n, api.ErrRange)
		}
	}
}

// P7.1: the first and the last periods of fiscal years, of which the last one may be shorter.
func TestYearBeginAndBefore(t *testing.T) {
	long := api.Calendar{Year: 2026, Month: 1, Periods: 120}
	short := api.Calendar{Year: 2027, Month: 12, Periods: 13}
	for _, x := range []struct {
		c       api.Calendar
		p, year int
		begin   string
		before  int
	}{
		{example(), 12, 1, "2027-04-01", 11}, {example(), 13, 1, "2027-04-01", 11}, {example(), 23, 1, "2027-04-01", 11},
		{long, 12, 1, "2027-01-01", 11}, {long, 23, 1, "2027-01-01", 11}, {long, 24, 2, "2028-01-01", 23}, {long, 35, 2, "2028-01-01", 23}, {long, 36, 3, "2029-01-01", 35},
		{long, 107, 8, "2034-01-01", 95}, {long, 108, 9, "2035-01-01", 107}, {long, 119, 9, "2035-01-01", 107}, {short, 12, 1, "2028-12-01", 11},
	} {
		if n := must(t, calendar.Year, x.c, x.p); n != x.year {
			t.Errorf("Year(%v, %d) is %d, not %d", x.c, x.p, n, x.year)
		}
		if n := must(t, calendar.Begin, x.c, x.p); date.Text(n) != x.begin {
			t.Errorf("Begin(%v, %d) is %s, not %s", x.c, x.p, date.Text(n), x.begin)
		}
		if n := must(t, calendar.Before, x.c, x.p); n != x.before {
			t.Errorf("Before(%v, %d) is %d, not %d", x.c, x.p, n, x.before)
		}
	}
}

// P7.1: nothing is before the fiscal year 0, also if it has fewer than 12 periods.
func TestFirstYear(t *testing.T) {
	for _, c := range []api.Calendar{example(), {Year: 1900, Month: 1, Periods: 120}, {Year: 2199, Month: 12, Periods: 1}, {Year: 2026, Month: 12, Periods: 5}} {
		for p := range min(12, c.Periods) {
			if n := must(t, calendar.Year, c, p); n != 0 {
				t.Errorf("Year(%v, %d) is %d", c, p, n)
			}
			if n := must(t, calendar.Begin, c, p); n != must(t, calendar.First, c, 0) {
				t.Errorf("Begin(%v, %d) is %s", c, p, date.Text(n))
			}
			wantError(t, "Before", calendar.Before, c, p, api.ErrNone)
		}
	}
}

// P7.1: the examples, and names of months with one digit and at both limits.
func TestName(t *testing.T) {
	for _, x := range []struct {
		c    api.Calendar
		p    int
		want string
	}{
		{example(), 0, "2026-04"}, {example(), 5, "2026-09"}, {example(), 6, "2026-10"}, {example(), 8, "2026-12"}, {example(), 9, "2027-01"}, {example(), 23, "2028-03"},
		{example(), 24, ""}, {example(), -1, ""}, {example(), math.MaxInt, ""}, {example(), math.MinInt, ""}, {example(), 1<<32 + 1, ""}, {api.Calendar{}, 0, ""},
		{api.Calendar{Year: 1900, Month: 1, Periods: 1}, 0, "1900-01"}, {api.Calendar{Year: 2190, Month: 1, Periods: 120}, 119, "2199-12"},
		{api.Calendar{Year: 2190, Month: 2, Periods: 120}, 0, ""}, {api.Calendar{Year: 1899, Month: 12, Periods: 2}, 1, ""}, {api.Calendar{Year: 2026, Month: 13, Periods: 1}, 0, ""},
	} {
		if name := calendar.Name(x.c, x.p); name != x.want {
			t.Errorf("Name(%v, %d) is %q, not %q", x.c, x.p, name, x.want)
		}
	}
}

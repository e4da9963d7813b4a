package date_test

import (
	"math"
	"testing"
	"time"

	"tallystone/api"
	"tallystone/date"
)

// extremes returns integers at, next to and far beyond all limits of the layer, small ones, and some whose lowest 32 bits
// are years, months or days.
func extremes() []int {
	l := []int{math.MinInt, math.MinInt + 1, math.MaxInt - 1, math.MaxInt, 0, 1<<32 + 2026, 1<<32 + 1, 1<<40 + 5, -1<<32 + 11, math.MinInt + 1970}
	for _, limit := range []int{1, 12, 28, 31, 1899, 1900, 2199, 2200, 3600, -date.Min, date.Max, math.MaxInt32, 1 << 32, 1 << 62} {
		l = append(l, limit-1, limit, limit+1, -limit-1, -limit, -limit+1)
	}
	return l
}

// civil returns the year, the month and the day of a number that a test knows to be a date.
func civil(t *testing.T, n int) (y, m, d int) {
	t.Helper()
	y, m, d, e := date.Civil(n)
	if e != api.OK {
		t.Fatalf("Civil(%d): error %d", n, e)
	}
	return y, m, d
}

// exact returns the date of a day as another implementation counts it, and whether there is such a date.
func exact(y, m, d int) (int, bool) {
	day := time.Date(y, time.Month(m), d, 0, 0, 0, 0, time.UTC)
	if day.Year() != y || int(day.Month()) != m || day.Day() != d || y < 1900 || y > 2199 {
		return 0, false
	}
	return int(day.Unix() / 86400), true
}

// P6.1: the examples, the first and the last date, leap days, the ends of months, and days that do not exist.
func TestOf(t *testing.T) {
	for _, c := range []struct {
		y, m, d, want int
		e             api.Errno
	}{
		{1970, 1, 1, 0, api.OK}, {1969, 12, 31, -1, api.OK}, {2026, 11, 16, 20773, api.OK}, {1900, 1, 1, date.Min, api.OK}, {2199, 12, 31, date.Max, api.OK},
		{1900, 1, 2, -25566, api.OK}, {2199, 12, 30, 84004, api.OK}, {1900, 12, 31, -25203, api.OK}, {1901, 1, 1, -25202, api.OK}, {1970, 12, 31, 364, api.OK},
		{1972, 2, 29, 789, api.OK}, {1972, 3, 1, 790, api.OK}, {2000, 2, 28, 11015, api.OK}, {2000, 2, 29, 11016, api.OK}, {2000, 3, 1, 11017, api.OK},
		{1900, 2, 28, -25509, api.OK}, {1900, 3, 1, -25508, api.OK}, {2100, 2, 28, 47540, api.OK}, {2100, 3, 1, 47541, api.OK}, {2196, 2, 29, 82604, api.OK},
		{1900, 2, 29, 0, api.ErrRange}, {2100, 2, 29, 0, api.ErrRange}, {2026, 2, 29, 0, api.ErrRange}, {2023, 2, 29, 0, api.ErrRange}, {2000, 2, 30, 0, api.ErrRange},
		{2028, 2, 30, 0, api.ErrRange}, {2026, 1, 32, 0, api.ErrRange}, {2026, 3, 32, 0, api.ErrRange}, {2026, 4, 31, 0, api.ErrRange}, {2026, 6, 31, 0, api.ErrRange},
		{2026, 9, 31, 0, api.ErrRange}, {2026, 11, 31, 0, api.ErrRange}, {2026, 12, 32, 0, api.ErrRange}, {2026, 1, 0, 0, api.ErrRange}, {2026, 1, -1, 0, api.ErrRange},
		{2026, 0, 1, 0, api.ErrRange}, {2026, 13, 1, 0, api.ErrRange}, {2026, -1, 1, 0, api.ErrRange}, {2026, 0, 0, 0, api.ErrRange}, {1899, 12, 31, 0, api.ErrRange},
		{2200, 1, 1, 0, api.ErrRange}, {0, 1, 1, 0, api.ErrRange}, {-1970, 1, 1, 0, api.ErrRange}, {70, 1, 1, 0, api.ErrRange},
		{math.MaxInt, 1, 1, 0, api.ErrRange}, {math.MinInt, 1, 1, 0, api.ErrRange}, {2026, math.MaxInt, 1, 0, api.ErrRange}, {2026, math.MinInt, 1, 0, api.ErrRange},
		{2026, 1, math.MaxInt, 0, api.ErrRange}, {2026, 1, math.MinInt, 0, api.ErrRange}, {1<<32 + 2026, 1, 1, 0, api.ErrRange}, {2026, 1<<32 + 1, 1, 0, api.ErrRange},
		{2026, 1, 1<<32 + 1, 0, api.ErrRange}, {2026, 1<<8 + 1, 1, 0, api.ErrRange}, {2026, 1, 1<<8 + 1, 0, api.ErrRange},
	} {
		if n, e := date.Of(c.y, c.m, c.d); n != c.want || e != c.e {
			t.Errorf("Of(%d, %d, %d): %d, error %d, not %d, error %d", c.y, c.m, c.d, n, e, c.want, c.e)
		}
	}
}

// P6.1: the days of all months, those that do not exist, and the years and months around them, compared with another
// implementation.
func TestOfOfAllDays(t *testing.T) {
	count := 0
	for y := 1880; y <= 2220; y++ {
		for m := -2; m <= 15; m++ {
			for d := -2; d <= 34; d++ {
				want, exists := exact(y, m, d)
				wantError := api.ErrRange
				if exists {
					wantError = api.OK
					count++
				}
				if n, e := date.Of(y, m, d); n != want || e != wantError {
					t.Errorf("Of(%d, %d, %d): %d, error %d, not %d, error %d", y, m, d, n, e, want, wantError)
				}
			}
		}
	}
	if count != date.Max-date.Min+1 {
		t.Errorf("%d dates", count)
	}
}

// P6.1: the first and the last date, the ends of years, and numbers that are no dates.
func TestCivil(t *testing.T) {
	for _, c := range []struct {
		n, y, m, d int
		e          api.Errno
	}{
		{0, 1970, 1, 1, api.OK}, {-1, 1969, 12, 31, api.OK}, {20773, 2026, 11, 16, api.OK}, {date.Min, 1900, 1, 1, api.OK}, {date.Max, 2199, 12, 31, api.OK},
		{-25509, 1900, 2, 28, api.OK}, {-25508, 1900, 3, 1, api.OK}, {-25203, 1900, 12, 31, api.OK}, {-25202, 1901, 1, 1, api.OK}, {11016, 2000, 2, 29, api.OK},
		{11017, 2000, 3, 1, api.OK}, {47540, 2100, 2, 28, api.OK}, {47541, 2100, 3, 1, api.OK}, {789, 1972, 2, 29, api.OK}, {1095, 1972, 12, 31, api.OK},
		{date.Min - 1, 0, 0, 0, api.ErrRange}, {date.Max + 1, 0, 0, 0, api.ErrRange}, {math.MinInt, 0, 0, 0, api.ErrRange}, {math.MaxInt, 0, 0, 0, api.ErrRange},
		{1 << 32, 0, 0, 0, api.ErrRange}, {-1 << 32, 0, 0, 0, api.ErrRange}, {1<<32 + 20773, 0, 0, 0, api.ErrRange},
	} {
		if y, m, d, e := date.Civil(c.n); y != c.y || m != c.m || d != c.d || e != c.e {
			t.Errorf("Civil(%d): %d, %d, %d, error %d, not %d, %d, %d, error %d", c.n, y, m, d, e, c.y, c.m, c.d, c.e)
		}
	}
}

// P6.1: both limits, and numbers beyond them.
func TestValid(t *testing.T) {
	if date.Min != -25567 || date.Max != 84005 {
		t.Errorf("the dates are from %d to %d", date.Min, date.Max)
	}
	for _, c := range []struct {
		n    int
		want bool
	}{
		{0, true}, {-1, true}, {20773, true}, {-25567, true}, {-25566, true}, {84005, true}, {84004, true}, {-25568, false}, {84006, false},
		{math.MinInt, false}, {math.MaxInt, false}, {1 << 32, false}, {-1 << 32, false},
	} {
		if date.Valid(c.n) != c.want {
			t.Errorf("Valid(%d) is not %t", c.n, c.want)
		}
	}
}

// P6.1: all months, the second one of years of each kind, and months and years that are not allowed.
func TestDays(t *testing.T) {
	for _, c := range []struct{ y, m, want int }{
		{2026, 1, 31}, {2026, 2, 28}, {2026, 3, 31}, {2026, 4, 30}, {2026, 5, 31}, {2026, 6, 30},
		{2026, 7, 31}, {2026, 8, 31}, {2026, 9, 30}, {2026, 10, 31}, {2026, 11, 30}, {2026, 12, 31},
		{2024, 2, 29}, {2025, 2, 28}, {2027, 2, 28}, {2028, 2, 29}, {2000, 2, 29}, {1900, 2, 28}, {2100, 2, 28}, {1904, 2, 29}, {2196, 2, 29}, {2199, 2, 28},
		{1900, 1, 31}, {2199, 12, 31}, {2028, 1, 31}, {2028, 3, 31},
		{2026, 0, 0}, {2026, 13, 0}, {2026, -1, 0}, {2026, -11, 0}, {2026, 14, 0}, {1899, 12, 0}, {2200, 1, 0}, {1896, 2, 0}, {2204, 2, 0}, {0, 1, 0}, {-2026, 1, 0},
		{2026, math.MaxInt, 0}, {2026, math.MinInt, 0}, {math.MaxInt, 1, 0}, {math.MinInt, 2, 0}, {1899, 0, 0}, {1<<32 + 2026, 1, 0}, {2026, 1<<32 + 1, 0},
	} {
		if n := date.Days(c.y, c.m); n != c.want {
			t.Errorf("Days(%d, %d) is %d, not %d", c.y, c.m, n, c.want)
		}
	}
}

// P6.1: every day of two weeks, of which one crosses 0, the limits, and numbers that are no dates.
func TestWeekday(t *testing.T) {
	for _, c := range []struct {
		n, want int
		e       api.Errno
	}{
		{-3, 0, api.OK}, {-2, 1, api.OK}, {-1, 2, api.OK}, {0, 3, api.OK}, {1, 4, api.OK}, {2, 5, api.OK}, {3, 6, api.OK}, {4, 0, api.OK},
		{20773, 0, api.OK}, {20774, 1, api.OK}, {20775, 2, api.OK}, {20776, 3, api.OK}, {20777, 4, api.OK}, {20778, 5, api.OK}, {20779, 6, api.OK},
		{date.Min, 0, api.OK}, {date.Min + 6, 6, api.OK}, {date.Max, 1, api.OK}, {-4, 6, api.OK}, {-10, 0, api.OK},
		{date.Min - 1, 0, api.ErrRange}, {date.Max + 1, 0, api.ErrRange}, {date.Max + 3, 0, api.ErrRange}, {math.MinInt, 0, api.ErrRange}, {math.MaxInt, 0, api.ErrRange},
	} {
		if n, e := date.Weekday(c.n); n != c.want || e != c.e {
			t.Errorf("Weekday(%d): %d, error %d, not %d, error %d", c.n, n, e, c.want, c.e)
		}
	}
}

// P6.1: all dates, compared with another implementation.
func TestAllDates(t *testing.T) {
	for n := date.Min; n <= date.Max; n++ {
		day := time.Unix(int64(n)*86400, 0).UTC()
		if y, m, d := civil(t, n); y != day.Year() || m != int(day.Month()) || d != day.Day() {
			t.Errorf("Civil(%d): %d, %d, %d, not %s", n, y, m, d, day)
		}
		if w, e := date.Weekday(n); w != (int(day.Weekday())+6)%7 || e != api.OK {
			t.Errorf("Weekday(%d): %d, error %d, not %s", n, w, e, day.Weekday())
		}
		if s := date.Text(n); s != day.Format("2006-01-02") {
			t.Errorf("Text(%d): %q, not %s", n, s, day)
		}
		if !date.Valid(n) {
			t.Errorf("%d is not valid", n)
		}
	}
}

// P6.2: Of and Civil are inverse to each other for all dates; all other days and numbers are refused by both.
func TestInverse(t *testing.T) {
	for n := date.Min; n <= date.Max; n++ {
		y, m, d := civil(t, n)
		if back, e := date.Of(y, m, d); back != n || e != api.OK {
			t.Errorf("Of(%d, %d, %d): %d, error %d, not %d", y, m, d, back, e, n)
		}
	}
	count := 0
	for y := 1890; y <= 2210; y++ {
		for m := range 14 {
			for d := range 33 {
				n, e := date.Of(y, m, d)
				if e != api.OK {
					continue
				}
				count++
				if backY, backM, backD := civil(t, n); backY != y || backM != m || backD != d {
					t.Errorf("Civil(%d): %d, %d, %d, not %d, %d, %d", n, backY, backM, backD, y, m, d)
				}
			}
		}
	}
	if count != date.Max-date.Min+1 {
		t.Errorf("%d days are dates", count)
	}
}

// P6.3: from the first date on, each day is the next one of its month, or else the first one of the next month, or else
// the first one of the next year, and of the week.
func TestNextDay(t *testing.T) {
	y, m, d, weekday := 1900, 1, 1, 0
	for n := date.Min; n <= date.Max; n++ {
		if gotY, gotM, gotD := civil(t, n); gotY != y || gotM != m || gotD != d {
			t.Fatalf("Civil(%d): %d, %d, %d, not %d, %d, %d", n, gotY, gotM, gotD, y, m, d)
		}
		if w, e := date.Weekday(n); w != weekday || e != api.OK {
			t.Fatalf("Weekday(%d): %d, error %d, not %d", n, w, e, weekday)
		}
		weekday = (weekday + 1) % 7
		switch {
		case d < date.Days(y, m):
			d++
		case m < 12:
			m, d = m+1, 1
		default:
			y, m, d = y+1, 1, 1
		}
	}
	if y != 2200 || m != 1 || d != 1 {
		t.Errorf("the day after the last one is %d, %d, %d", y, m, d)
	}
}

// P1, P6.1: every function answers whatever its arguments are, with no other result beside an error.
func TestTotality(t *testing.T) {
	wantNone := func(n int, e api.Errno) {
		t.Helper()
		if e != api.OK && (e != api.ErrRange || n != 0) {
			t.Errorf("%d, error %d", n, e)
		}
	}
	for _, a := range extremes() {
		y, m, d, e := date.Civil(a)
		wantNone(y|m|d, e)
		wantNone(date.Weekday(a))
		if date.Valid(a) != (e == api.OK) || date.Valid(a) != (date.Text(a) != "") {
			t.Errorf("Valid(%d) is %t", a, date.Valid(a))
		}
		for _, b := range extremes() {
			n, e := date.Add(a, b)
			wantNone(n, e)
			if e == api.OK && !date.Valid(n) {
				t.Errorf("Add(%d, %d) is %d", a, b, n)
			}
			length := date.Days(a, b)
			for _, c := range extremes() {
				n, e := date.Of(a, b, c)
				wantNone(n, e)
				if (e == api.OK) != (1 <= c && c <= length) {
					t.Errorf("Of(%d, %d, %d): error %d, and the month has %d days", a, b, c, e, length)
				}
			}
		}
	}
}

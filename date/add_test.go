package date_test

import (
	"math"
	"math/rand"
	"testing"
	"time"

	"tallystone/api"
	"tallystone/date"
)

// months returns a random number of months that leads from a date to a date, if the day is one of all months.
func months(r *rand.Rand, t *testing.T, n int) int {
	t.Helper()
	y, m, _ := civil(t, n)
	return r.Intn(3600) - 12*(y-1900) - (m - 1)
}

// add returns a date some months after another one that a test knows to be there.
func add(t *testing.T, n, months int) int {
	t.Helper()
	later, e := date.Add(n, months)
	if e != api.OK {
		t.Fatalf("Add(%s, %d): error %d", date.Text(n), months, e)
	}
	return later
}

// exactAdd returns the date some months after another one from the first day of that month and the day before the next
// one, and whether there is such a date.
func exactAdd(n, months int) (int, bool) {
	day := time.Unix(int64(n)*86400, 0).UTC()
	first := time.Date(day.Year(), day.Month()+time.Month(months), 1, 0, 0, 0, 0, time.UTC)
	last := time.Date(day.Year(), day.Month()+time.Month(months)+1, 0, 0, 0, 0, 0, time.UTC)
	return exact(first.Year(), int(first.Month()), min(day.Day(), last.Day()))
}

// earlyDays returns dates with days up to 28, among them some of the first and of the last month.
func earlyDays(t *testing.T) []int {
	t.Helper()
	l := []int{date.Min, date.Min + 27, date.Max - 30, date.Max - 3, 0, -4, 11014, 11015, 47540, -25509, 20773}
	r := rand.New(rand.NewSource(1))
	for len(l) < 3000 {
		n := date.Min + r.Intn(date.Max-date.Min+1)
		if _, _, d := civil(t, n); d <= 28 {
			l = append(l, n)
		}
	}
	return l
}

// P6.1: the examples, shorter months, new years, negative numbers, and results beyond the first and the last date.
func TestAdd(t *testing.T) {
	for _, c := range []struct {
		from   string
		months int
		want   string
	}{
		{"2028-01-31", 1, "2028-02-29"}, {"2026-01-31", 1, "2026-02-28"}, {"2026-01-29", 1, "2026-02-28"}, {"2028-01-30", 1, "2028-02-29"}, {"2026-01-28", 1, "2026-02-28"},
		{"2100-01-31", 1, "2100-02-28"}, {"2000-01-31", 1, "2000-02-29"}, {"2026-03-31", 1, "2026-04-30"}, {"2026-03-31", -1, "2026-02-28"}, {"2026-04-30", 1, "2026-05-30"},
		{"2026-02-28", 1, "2026-03-28"}, {"2028-02-29", 12, "2029-02-28"}, {"2028-02-29", 48, "2032-02-29"}, {"2028-02-29", -12, "2027-02-28"}, {"2096-02-29", 48, "2100-02-28"},
		{"2026-12-15", 1, "2027-01-15"}, {"2026-01-15", -1, "2025-12-15"}, {"2026-12-31", 2, "2027-02-28"}, {"2026-11-30", 3, "2027-02-28"}, {"2026-11-16", 0, "2026-11-16"},
		{"2026-01-15", 11, "2026-12-15"}, {"2026-01-15", 12, "2027-01-15"}, {"2026-12-15", -11, "2026-01-15"}, {"2026-12-15", -12, "2025-12-15"}, {"2026-12-15", 12, "2027-12-15"},
		{"2026-12-15", -23, "2025-01-15"}, {"2026-12-15", -24, "2024-12-15"}, {"2026-08-31", 13, "2027-09-30"}, {"2026-08-31", -14, "2025-06-30"}, {"1970-01-01", -1, "1969-12-01"},
		{"1900-01-01", 3599, "2199-12-01"}, {"1900-01-31", 3599, "2199-12-31"}, {"2199-12-31", -3599, "1900-01-31"}, {"1900-01-31", 1, "1900-02-28"}, {"2199-12-31", -1, "2199-11-30"},
		{"2199-11-30", 1, "2199-12-30"}, {"1900-02-28", -1, "1900-01-28"}, {"1900-01-01", 0, "1900-01-01"}, {"2199-12-31", 0, "2199-12-31"},
		{"2199-12-01", 1, ""}, {"2199-12-31", 1, ""}, {"1900-01-01", -1, ""}, {"1900-01-31", -1, ""}, {"1900-01-01", 3600, ""}, {"2199-12-31", -3600, ""}, {"2199-11-30", 2, ""},
		{"1900-02-28", -2, ""}, {"2199-01-31", 12, ""}, {"1900-12-31", -12, ""}, {"1970-01-01", 2760, ""}, {"1970-01-01", -841, ""}, {"1970-01-01", 12000, ""},
		{"1970-01-01", math.MaxInt, ""}, {"1970-01-01", math.MinInt, ""}, {"1900-01-01", math.MaxInt, ""}, {"2199-12-31", math.MinInt, ""}, {"2199-12-31", math.MaxInt, ""},
		{"1900-01-01", math.MinInt, ""}, {"1970-01-01", 1 << 32, ""}, {"1970-01-01", -1 << 32, ""}, {"1970-01-01", math.MinInt + 1, ""}, {"1970-01-01", math.MaxInt - 23640, ""},
	} {
		n, e := date.Parse(c.from)
		if e != api.OK {
			t.Fatalf("Parse(%q): error %d", c.from, e)
		}
		want, wantError := 0, api.ErrRange
		if c.want != "" {
			want, wantError = date.Parse(c.want)
		}
		if got, e := date.Add(n, c.months); got != want || e != wantError {
			t.Errorf("Add(%s, %d): %s, error %d, not %q", c.from, c.months, date.Text(got), e, c.want)
		}
	}
}

// P6.1: numbers that are no dates, also if the months lead to dates.
func TestAddToNoDate(t *testing.T) {
	for _, n := range []int{date.Min - 1, date.Max + 1, date.Min - 31, date.Max + 31, math.MinInt, math.MaxInt, 1 << 32, -1 << 32} {
		for _, months := range []int{0, 1, -1, 2, -2, 12, -12, math.MinInt, math.MaxInt} {
			if got, e := date.Add(n, months); got != 0 || e != api.ErrRange {
				t.Errorf("Add(%d, %d): %d, error %d", n, months, got, e)
			}
		}
	}
}

// P6.1: all dates and small numbers of months, and great ones, compared with another implementation.
func TestAddToAllDates(t *testing.T) {
	r := rand.New(rand.NewSource(2))
	for n := date.Min; n <= date.Max; n++ {
		for _, k := range []int{-13, -12, -1, 0, 1, 2, 11, 12, r.Intn(9000) - 4500, r.Intn(9000) - 4500, months(r, t, n)} {
			want, exists := exactAdd(n, k)
			wantError := api.ErrRange
			if exists {
				wantError = api.OK
			}
			if got, e := date.Add(n, k); got != want || e != wantError {
				t.Errorf("Add(%s, %d): %s, error %d, not %s, error %d", date.Text(n), k, date.Text(got), e, date.Text(want), wantError)
			}
		}
	}
}

// P6.5: the day is kept, and the negated number leads back.
func TestAddAndBack(t *testing.T) {
	r := rand.New(rand.NewSource(3))
	for _, n := range earlyDays(t) {
		for range 20 {
			k := months(r, t, n)
			later := add(t, n, k)
			_, _, d := civil(t, n)
			if _, _, laterD := civil(t, later); laterD != d {
				t.Errorf("Add(%s, %d) is %s", date.Text(n), k, date.Text(later))
			}
			if back := add(t, later, -k); back != n {
				t.Errorf("Add(%s, %d) is %s, from which Add leads back to %s", date.Text(n), k, date.Text(later), date.Text(back))
			}
		}
	}
}

// P6.5: two numbers of months one after the other are their sum.
func TestAddTwice(t *testing.T) {
	r := rand.New(rand.NewSource(4))
	for _, n := range earlyDays(t) {
		for range 20 {
			first := months(r, t, n)
			between := add(t, n, first)
			second := months(r, t, between)
			if twice, once := add(t, between, second), add(t, n, first+second); twice != once {
				t.Errorf("Add(%s, %d) is %s, but %s for %d and %d", date.Text(n), first+second, date.Text(once), date.Text(twice), first, second)
			}
		}
	}
}

// P6.5: adding 0 changes no date, and adding 12 leads to the same month of the next year, also at the ends of months.
func TestAddYear(t *testing.T) {
	for n := date.Min; n <= date.Max; n++ {
		if got, e := date.Add(n, 0); got != n || e != api.OK {
			t.Errorf("Add(%s, 0): %s, error %d", date.Text(n), date.Text(got), e)
		}
		y, m, d := civil(t, n)
		if y == 2199 {
			if got, e := date.Add(n, 12); got != 0 || e != api.ErrRange {
				t.Errorf("Add(%s, 12): %s, error %d", date.Text(n), date.Text(got), e)
			}
			continue
		}
		laterY, laterM, laterD := civil(t, add(t, n, 12))
		if laterY != y+1 || laterM != m || laterD != min(d, date.Days(y+1, m)) {
			t.Errorf("Add(%s, 12) is %d, %d, %d", date.Text(n), laterY, laterM, laterD)
		}
	}
}

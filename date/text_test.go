package date_test

import (
	"math"
	"strconv"
	"strings"
	"testing"

	"tallystone/api"
	"tallystone/date"
)

// P6.1: the examples, months and days of one digit, the limits, and numbers that are no dates.
func TestText(t *testing.T) {
	for _, c := range []struct {
		n    int
		want string
	}{
		{0, "1970-01-01"}, {-1, "1969-12-31"}, {20773, "2026-11-16"}, {date.Min, "1900-01-01"}, {date.Max, "2199-12-31"}, {11016, "2000-02-29"},
		{10956, "1999-12-31"}, {10957, "2000-01-01"}, {9, "1970-01-10"}, {273, "1970-10-01"}, {8, "1970-01-09"}, {272, "1970-09-30"}, {47541, "2100-03-01"},
		{date.Min - 1, ""}, {date.Max + 1, ""}, {math.MinInt, ""}, {math.MaxInt, ""}, {1 << 32, ""}, {-1 << 32, ""},
	} {
		if s := date.Text(c.n); s != c.want {
			t.Errorf("Text(%d): %q, not %q", c.n, s, c.want)
		}
	}
}

// P6.1: texts of dates, of dates that do not exist, and texts without the form, also where the date does not exist.
func TestParse(t *testing.T) {
	for _, c := range []struct {
		s    string
		want int
		e    api.Errno
	}{
		{"1970-01-01", 0, api.OK}, {"1969-12-31", -1, api.OK}, {"2026-11-16", 20773, api.OK}, {"1900-01-01", date.Min, api.OK}, {"2199-12-31", date.Max, api.OK},
		{"2000-02-29", 11016, api.OK}, {"2100-02-28", 47540, api.OK}, {"1970-09-08", 250, api.OK}, {"1970-10-10", 282, api.OK},
		{"1900-02-29", 0, api.ErrRange}, {"2100-02-29", 0, api.ErrRange}, {"2026-02-29", 0, api.ErrRange}, {"2026-02-30", 0, api.ErrRange}, {"2026-04-31", 0, api.ErrRange},
		{"2026-01-32", 0, api.ErrRange}, {"2026-01-00", 0, api.ErrRange}, {"2026-00-01", 0, api.ErrRange}, {"2026-13-01", 0, api.ErrRange}, {"2026-99-99", 0, api.ErrRange},
		{"1899-12-31", 0, api.ErrRange}, {"2200-01-01", 0, api.ErrRange}, {"0000-00-00", 0, api.ErrRange}, {"0001-01-01", 0, api.ErrRange}, {"9999-12-31", 0, api.ErrRange},
		{"0970-01-01", 0, api.ErrRange}, {"2026-20-01", 0, api.ErrRange},
		{"", 0, api.ErrSyntax}, {"-", 0, api.ErrSyntax}, {"--", 0, api.ErrSyntax}, {"2026", 0, api.ErrSyntax}, {"2026-11", 0, api.ErrSyntax}, {"2026-11-", 0, api.ErrSyntax},
		{"2026-11-1", 0, api.ErrSyntax}, {"2026-1-16", 0, api.ErrSyntax}, {"2026-1-016", 0, api.ErrSyntax}, {"2026-011-6", 0, api.ErrSyntax}, {"202-011-16", 0, api.ErrSyntax},
		{"20260-1-16", 0, api.ErrSyntax}, {"26-11-16", 0, api.ErrSyntax}, {"2026-11-160", 0, api.ErrSyntax}, {"12026-11-16", 0, api.ErrSyntax}, {"02026-11-16", 0, api.ErrSyntax},
		{"2026-11-016", 0, api.ErrSyntax}, {"20261116", 0, api.ErrSyntax}, {"2026111600", 0, api.ErrSyntax}, {"2026-11-16 ", 0, api.ErrSyntax}, {" 2026-11-16", 0, api.ErrSyntax},
		{" 026-11-16", 0, api.ErrSyntax}, {"2026-11- 6", 0, api.ErrSyntax}, {"2026/11/16", 0, api.ErrSyntax}, {"2026.11.16", 0, api.ErrSyntax}, {"16-11-2026", 0, api.ErrSyntax},
		{"+026-11-16", 0, api.ErrSyntax}, {"-026-11-16", 0, api.ErrSyntax}, {"2026-+1-16", 0, api.ErrSyntax}, {"2026--1-16", 0, api.ErrSyntax}, {"2026-11--6", 0, api.ErrSyntax},
		{"2026-11-+6", 0, api.ErrSyntax}, {"2026-1_-16", 0, api.ErrSyntax}, {"2026-0x1-1", 0, api.ErrSyntax}, {"2026-11-16\n", 0, api.ErrSyntax}, {"2026-11-16\x00", 0, api.ErrSyntax},
		{"2026-13-1", 0, api.ErrSyntax}, {"1899-12-3", 0, api.ErrSyntax}, {"2026-13-x1", 0, api.ErrSyntax}, {"9999-99-9x", 0, api.ErrSyntax}, {"2026-02-300", 0, api.ErrSyntax},
		{"\u0661970-01-01", 0, api.ErrSyntax}, {"2026-11-\u0661", 0, api.ErrSyntax}, {"2026\u201011-16", 0, api.ErrSyntax}, {"2026-11-16T00:00:00", 0, api.ErrSyntax},
		{strings.Repeat("2026-11-16", 1000), 0, api.ErrSyntax}, {strings.Repeat("0", 100000), 0, api.ErrSyntax}, {"0000", 0, api.ErrSyntax}, {"----------", 0, api.ErrSyntax},
	} {
		if n, e := date.Parse(c.s); n != c.want || e != c.e {
			t.Errorf("Parse(%.40q): %d, error %d, not %d, error %d", c.s, n, e, c.want, c.e)
		}
	}
}

// P6.1: every byte that does not belong to a place is refused there, and every digit is read where one belongs.
func TestParseOfForeignBytes(t *testing.T) {
	for i := range 10 {
		for b := range 256 {
			text := []byte("2011-11-11")
			text[i] = byte(b)
			isAllowed := b >= '0' && b <= '9'
			if i == 4 || i == 7 {
				isAllowed = b == '-'
			}
			if n, e := date.Parse(string(text)); isAllowed == (e == api.ErrSyntax) || e != api.OK && n != 0 {
				t.Errorf("Parse(%q): %d, error %d", text, n, e)
			}
		}
	}
}

// P6.1, P6.2: all texts with years around the limits, and all numbers of months and days, are read as Of reads their numbers.
func TestParseOfAllNumbers(t *testing.T) {
	for _, y := range []int{1000, 1899, 1900, 1904, 1999, 2000, 2026, 2100, 2199, 2200, 9999} {
		for m := range 100 {
			for d := range 100 {
				s := strconv.Itoa(y) + "-" + strconv.Itoa(100 + m)[1:] + "-" + strconv.Itoa(100 + d)[1:]
				want, wantError := date.Of(y, m, d)
				n, e := date.Parse(s)
				if n != want || e != wantError {
					t.Errorf("Parse(%q): %d, error %d, not %d, error %d", s, n, e, want, wantError)
				}
				if e == api.OK && date.Text(n) != s {
					t.Errorf("Parse(%q) is %d, whose text is %q", s, n, date.Text(n))
				}
			}
		}
	}
}

// P6.2: the text of every date is read as this date.
func TestParseOfText(t *testing.T) {
	for n := date.Min; n <= date.Max; n++ {
		s := date.Text(n)
		if back, e := date.Parse(s); back != n || e != api.OK {
			t.Errorf("Parse(%q): %d, error %d, not %d", s, back, e, n)
		}
	}
}

// P6.4: the text of each date is less than that of the next one, and so of all later ones; that of no date is the least.
func TestOrderOfTexts(t *testing.T) {
	before := date.Text(date.Min - 1)
	for n := date.Min; n <= date.Max; n++ {
		s := date.Text(n)
		if before >= s {
			t.Errorf("%q is the text of %d, and %q that of the date before it", s, n, before)
		}
		before = s
	}
	dates := []int{date.Min, -25203, -25202, -1, 0, 8, 9, 272, 273, 10956, 10957, 20773, date.Max}
	for _, a := range dates {
		for _, b := range dates {
			if (a < b) != (date.Text(a) < date.Text(b)) {
				t.Errorf("the texts of %d and %d are %q and %q", a, b, date.Text(a), date.Text(b))
			}
		}
	}
}

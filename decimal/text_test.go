package decimal_test

import (
	"math"
	"math/rand"
	"strings"
	"testing"

	"tallystone/api"
	"tallystone/decimal"
)

// P3.1: signs, zeros before and behind the point, and both limits.
func TestText(t *testing.T) {
	for _, c := range []struct {
		n, scale int
		want     string
	}{
		{0, 0, "0"}, {0, 1, "0.0"}, {0, 9, "0.000000000"}, {7, 0, "7"}, {-7, 0, "-7"}, {-1234, 2, "-12.34"}, {5, 3, "0.005"},
		{-5, 3, "-0.005"}, {1200, 2, "12.00"}, {10, 1, "1.0"}, {99, 2, "0.99"}, {100, 2, "1.00"}, {999, 3, "0.999"}, {-10, 2, "-0.10"},
		{1, 9, "0.000000001"}, {1234567890, 9, "1.234567890"}, {-1234567890, 0, "-1234567890"},
		{decimal.MaxNumber, 0, "1000000000000000"}, {-decimal.MaxNumber, 0, "-1000000000000000"},
		{decimal.MaxNumber, 9, "1000000.000000000"}, {-decimal.MaxNumber + 1, 9, "-999999.999999999"},
		// Numbers that are not valid have no text.
		{decimal.MaxNumber + 1, 0, ""}, {-decimal.MaxNumber - 1, 2, ""}, {1, -1, ""}, {1, 10, ""},
		{math.MaxInt, 0, ""}, {math.MinInt, 0, ""}, {0, math.MaxInt, ""}, {0, math.MinInt, ""},
	} {
		if s := decimal.Text(c.n, c.scale); s != c.want {
			t.Errorf("Text(%d, %d): %q, not %q", c.n, c.scale, s, c.want)
		}
	}
}

// P3.1: texts of numbers, and texts of numbers that are out of range.
func TestParse(t *testing.T) {
	long := strings.Repeat("0", 3000)
	for _, c := range []struct {
		s     string
		scale int
		want  int
		e     api.Errno
	}{
		{"0", 0, 0, api.OK}, {"0", 9, 0, api.OK}, {"0.0", 1, 0, api.OK}, {"0.000000000", 9, 0, api.OK}, {"7", 0, 7, api.OK},
		{"12.34", 2, 1234, api.OK}, {"-12.3", 2, -1230, api.OK}, {"12", 2, 1200, api.OK}, {"0.005", 3, 5, api.OK},
		{"-0.005", 4, -50, api.OK}, {"-0.10", 2, -10, api.OK}, {"10", 0, 10, api.OK}, {"1.000000009", 9, 1000000009, api.OK},
		{"9876543210", 0, 9876543210, api.OK}, {"-0.000000001", 9, -1, api.OK}, {"100.0", 1, 1000, api.OK},
		{"1000000000000000", 0, decimal.MaxNumber, api.OK}, {"-1000000000000000", 0, -decimal.MaxNumber, api.OK},
		{"1000000.000000000", 9, decimal.MaxNumber, api.OK}, {"-1000000", 9, -decimal.MaxNumber, api.OK},
		// More digits behind the point than the scale, also if they are zeros.
		{"12.345", 2, 0, api.ErrRange}, {"12.340", 2, 0, api.ErrRange}, {"1.0", 0, 0, api.ErrRange}, {"0.0", 0, 0, api.ErrRange},
		{"-0.05", 1, 0, api.ErrRange}, {"0.0000000001", 9, 0, api.ErrRange}, {"1." + long, 9, 0, api.ErrRange},
		{"0." + long, 9, 0, api.ErrRange}, {"-0." + long + "1", 9, 0, api.ErrRange},
		// Numbers beyond the limit, and beyond any int.
		{"1000000000000001", 0, 0, api.ErrRange}, {"-1000000000000001", 0, 0, api.ErrRange}, {"1000000000000000", 1, 0, api.ErrRange},
		{"1000000.000000001", 9, 0, api.ErrRange}, {"-1000001", 9, 0, api.ErrRange}, {"9223372036854775807", 0, 0, api.ErrRange},
		{"9223372036854775808", 0, 0, api.ErrRange}, {"-9223372036854775809", 0, 0, api.ErrRange},
		{"18446744073709551617", 0, 0, api.ErrRange}, {"18446744074", 9, 0, api.ErrRange}, {"-18446744073.709551617", 9, 0, api.ErrRange},
		{"1" + long, 0, 0, api.ErrRange}, {"-1" + long + ".5", 1, 0, api.ErrRange},
		// No text, also where it would be out of range.
		{"", 2, 0, api.ErrSyntax}, {"-", 2, 0, api.ErrSyntax}, {"-0", 2, 0, api.ErrSyntax}, {"-0.00", 2, 0, api.ErrSyntax},
		{"-0.000", 2, 0, api.ErrSyntax}, {"01", 0, 0, api.ErrSyntax}, {"00", 0, 0, api.ErrSyntax}, {"-01", 0, 0, api.ErrSyntax},
		{"00.5", 1, 0, api.ErrSyntax}, {"1.", 2, 0, api.ErrSyntax}, {".5", 2, 0, api.ErrSyntax}, {".", 2, 0, api.ErrSyntax},
		{"-.5", 2, 0, api.ErrSyntax}, {"-1.", 2, 0, api.ErrSyntax}, {"1.2.3", 2, 0, api.ErrSyntax}, {"1..2", 2, 0, api.ErrSyntax},
		{"1.-2", 2, 0, api.ErrSyntax}, {"1e3", 0, 0, api.ErrSyntax}, {"0x1", 0, 0, api.ErrSyntax}, {"1_000", 0, 0, api.ErrSyntax},
		{"+1", 0, 0, api.ErrSyntax}, {"--1", 0, 0, api.ErrSyntax}, {"1-", 0, 0, api.ErrSyntax}, {" 1", 0, 0, api.ErrSyntax},
		{"1 ", 0, 0, api.ErrSyntax}, {"1,5", 1, 0, api.ErrSyntax}, {"1.5x", 1, 0, api.ErrSyntax}, {"x", 1, 0, api.ErrSyntax},
		{"1\x00", 0, 0, api.ErrSyntax}, {"\xff", 0, 0, api.ErrSyntax}, {"1\n", 0, 0, api.ErrSyntax}, {"\u0661", 0, 0, api.ErrSyntax},
		{"1/2", 1, 0, api.ErrSyntax}, {"1:", 1, 0, api.ErrSyntax}, {"-1" + long + "x", 0, 0, api.ErrSyntax},
		{"1." + long + "x", 2, 0, api.ErrSyntax}, {"0" + long, 0, 0, api.ErrSyntax}, {"-0." + long, 2, 0, api.ErrSyntax},
		// A wrong scale is named first.
		{"1", 10, 0, api.ErrArg}, {"1", -1, 0, api.ErrArg}, {"", 10, 0, api.ErrArg}, {"x", -1, 0, api.ErrArg},
		{"1000000000000001", math.MaxInt, 0, api.ErrArg}, {"1.5", math.MinInt, 0, api.ErrArg},
	} {
		if n, e := decimal.Parse(c.s, c.scale); n != c.want || e != c.e {
			t.Errorf("Parse(%.40q, %d): %d, error %d, not %d, error %d", c.s, c.scale, n, e, c.want, c.e)
		}
	}
}

// P3.1: every digit but 0 makes a number with a minus sign, before and behind the point.
func TestParseOfMinus(t *testing.T) {
	for digit := 1; digit <= 9; digit++ {
		for factor, before := range map[int]string{100: "-", 10: "-0.", 1: "-0.0"} {
			s := before + string(rune('0'+digit))
			if n, e := decimal.Parse(s, 2); n != -digit*factor || e != api.OK {
				t.Errorf("Parse(%q): %d, error %d", s, n, e)
			}
		}
	}
}

// P3.1: every byte that is no digit is refused, wherever it stands.
func TestParseOfForeignBytes(t *testing.T) {
	for b := range 256 {
		if b >= '0' && b <= '9' {
			continue
		}
		c := string([]byte{byte(b)})
		for _, s := range []string{"1" + c, "1.2" + c, "1.2" + c + "3", "1" + c + "2.3", "1." + c, c} {
			if n, e := decimal.Parse(s, 2); n != 0 || e != api.ErrSyntax {
				t.Errorf("Parse(%q): %d, error %d", s, n, e)
			}
		}
	}
}

// wantParsed checks that the text of a number with one scale is that of a number with the same or a greater scale, if
// there is one.
func wantParsed(t *testing.T, n, scale, greater int) {
	t.Helper()
	s := decimal.Text(n, scale)
	want, e := decimal.Rescale(n, scale, greater, decimal.Down)
	if got, f := decimal.Parse(s, greater); got != want || f != e {
		t.Errorf("Parse(%q, %d): %d, error %d, not %d, error %d", s, greater, got, f, want, e)
	}
	if greater == scale && (e != api.OK || want != n) {
		t.Errorf("Parse(%q, %d) is not %d", s, scale, n)
	}
}

// P3.2: numbers of all scales, and their texts with all greater ones.
func TestParseOfText(t *testing.T) {
	r := rand.New(rand.NewSource(2))
	numbers := []int{0, 1, -1, 9, 10, -10, decimal.MaxNumber, -decimal.MaxNumber, decimal.MaxNumber / 10, decimal.MaxNumber/10 + 1}
	for range 500 {
		numbers = append(numbers, randomNumber(r))
	}
	for _, n := range numbers {
		for scale := range decimal.MaxScale + 1 {
			for greater := scale; greater <= decimal.MaxScale; greater++ {
				wantParsed(t, n, scale, greater)
			}
		}
	}
}

package money_test

import (
	"math"
	"math/rand"
	"strings"
	"testing"

	"tallystone/api"
	"tallystone/money"
)

// P4.1: signs, zeros before and behind the point, both limits, and integers that are no amounts. P4.4: their texts are
// parsed.
func TestText(t *testing.T) {
	for _, c := range []struct {
		n    int
		want string
	}{
		{0, "0.00"}, {5, "0.05"}, {-5, "-0.05"}, {10, "0.10"}, {-10, "-0.10"}, {99, "0.99"}, {100, "1.00"}, {-100, "-1.00"}, {101, "1.01"},
		{1050, "10.50"}, {1155, "11.55"}, {-1999, "-19.99"}, {100000, "1000.00"}, {1234567, "12345.67"}, {-7654321, "-76543.21"},
		{most, "10000000000.00"}, {-most, "-10000000000.00"}, {most - 1, "9999999999.99"}, {1 - most, "-9999999999.99"},
		{most + 1, ""}, {-most - 1, ""}, {math.MaxInt, ""}, {math.MinInt, ""}, {math.MinInt + 1, ""},
	} {
		if s := money.Text(c.n); s != c.want {
			t.Errorf("Text(%d): %q, not %q", c.n, s, c.want)
		}
		if n, e := money.Parse(c.want); c.want != "" && (n != c.n || e != api.OK) {
			t.Errorf("Parse(%q): %d, error %d, not %d", c.want, n, e, c.n)
		}
	}
}

// P4.1, P4.4: texts that are not in form, also where they are too long.
func TestParseOfOtherTexts(t *testing.T) {
	long := strings.Repeat("0", 3000)
	for _, s := range []string{
		"", "-", ".", "-.", ".00", "-.00", ".5", "0", "-0", "1", "-1", "100", "1.", "1.0", "1.5", "1.000", "1.005", "-1.0", "0.", "0.0", "0.000",
		"-0.00", "-0.0", "-00.00", "00.00", "01.00", "00.05", "-01.00", "000", "0000", "007.50", "+1.00", "+0.00", "--1.00", "-+1.00", "1-.00",
		"- 1.00", " 1.00", "1.00 ", "1 .00", "1. 0", "1.0 ", "\n1.00", "1.00\n", "1,00", "1:00", "1/00", "1.-0", "1.-5", "1.+5", "-1.-5",
		"1.0x", "1.x0", "x.00", "1x.00", "x1.00", "1.00x", "0x1.00", "1e3.00", "1e2", "1.e2", "1_000.00", "1.0_0", "1,000.00", "1.2.3", "1.00.00",
		"1..00", "1.00.", ".1.00", "1.0.", "..00", "1.00-", "(1.00)", "1.00\x00", "\x001.00", "\xff.00", "1.\xff\xff", "\u0661.00", "1.\u0661",
		"NaN", "Inf", "1/2", "1.0/", "1.:0",
		// The form is named before the length.
		"0" + long + ".00", "1" + long, "-1" + long, "1" + long + ".0", "1" + long + ".000", "1" + long + "x.00", "1" + long + ".0x",
		"-0." + long, "1." + long, "+1" + long + ".00", " 1" + long + ".00", "-0" + long + ".05", "x" + long + ".00",
	} {
		if n, e := money.Parse(s); n != 0 || e != api.ErrSyntax {
			t.Errorf("Parse(%.40q): %d, error %d", s, n, e)
		}
	}
}

// P4.1, P4.4: texts in form that are longer than 30 characters, or of integers that are no amounts, also beyond every int.
func TestParseOutOfRange(t *testing.T) {
	for _, s := range []string{
		"10000000000.01", "-10000000000.01", "10000000001.00", "99999999999.99", "-100000000000.00", "92233720368547758.07", "92233720368547758.08",
		"-92233720368547758.08", "-92233720368547758.09", "99999999999999999999.00", "184467440737095516.16", "184467440737095516.21",
		"-184467440737095517.16", strings.Repeat("9", 27) + ".99", strings.Repeat("9", 28) + ".99", "-" + strings.Repeat("9", 26) + ".99",
		"-" + strings.Repeat("9", 27) + ".99", "1" + strings.Repeat("0", 26) + ".00", "1" + strings.Repeat("0", 27) + ".00",
		"1" + strings.Repeat("0", 100000) + ".05", "-1" + strings.Repeat("0", 100000) + ".05",
	} {
		if n, e := money.Parse(s); n != 0 || e != api.ErrRange {
			t.Errorf("Parse(%.40q): %d, error %d", s, n, e)
		}
	}
}

// P4.1: every byte that is no digit is refused, wherever it stands.
func TestParseOfForeignBytes(t *testing.T) {
	for b := range 256 {
		if b >= '0' && b <= '9' {
			continue
		}
		c := string([]byte{byte(b)})
		for _, s := range []string{c, c + ".00", "1" + c + ".00", "1" + c + "1.00", "1." + c + "0", "1.0" + c, "1." + c + c, "1.00" + c, "1" + c + "00" + c} {
			if n, e := money.Parse(s); n != 0 || e != api.ErrSyntax {
				t.Errorf("Parse(%q): %d, error %d", s, n, e)
			}
		}
	}
}

// P4.4: every string of up to six characters of an alphabet is accepted only if it is the text of the amount.
func TestParseAcceptsTextsOnly(t *testing.T) {
	const alphabet = "-.0159x"
	texts := []string{""}
	for length := 0; length <= 6; length++ {
		var longer []string
		for _, s := range texts {
			n, e := money.Parse(s)
			isText := e == api.OK && money.Text(n) == s
			isNone := e == api.ErrSyntax && n == 0
			if !isText && !isNone {
				t.Errorf("Parse(%q): %d, error %d", s, n, e)
			}
			for _, c := range alphabet {
				longer = append(longer, s+string(c))
			}
		}
		texts = longer
	}
}

// P4.4: every amount is returned from its text.
func TestParseOfText(t *testing.T) {
	wantParsed := func(n int) {
		t.Helper()
		s := money.Text(n)
		if got, e := money.Parse(s); got != n || e != api.OK {
			t.Errorf("Parse(%q): %d, error %d, not %d", s, got, e, n)
		}
	}
	for n := -11000; n <= 11000; n++ {
		wantParsed(n)
		wantParsed(n * 100)
	}
	r := rand.New(rand.NewSource(7))
	for range 20000 {
		wantParsed(randomAmount(r))
		wantParsed(most - r.Intn(1000000))
		wantParsed(r.Intn(1000000) - most)
	}
}

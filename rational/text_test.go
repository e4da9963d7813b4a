package rational_test

import (
	"math/rand"
	"strings"
	"testing"

	"tallystone/api"
	"tallystone/rational"
)

func wantError(t *testing.T, s string, want api.Errno) {
	t.Helper()
	x, e := rational.Parse(s)
	if e != want {
		t.Errorf("Parse(%.40q, %d bytes): error %d, want %d", s, len(s), e, want)
	}
	wantZero(t, "Parse", x)
}

// P2.1, P1: a text that is none is an error.
func TestParseRejectsMalformedTexts(t *testing.T) {
	for _, s := range []string{"", "/", "//", "1/", "/2", "-", "-/2", "1/-", "-/", "1//2", "1/2/3", "1/2/", "/1/2", "1/2/1",
		"+1", "+1/2", "1/+2", "-0", "-0/3", "00", "007", "01/2", "1/02", "1/00", "-01/2", "--1/2", "1/--2", "-+1/2",
		" ", " 1/2", "1/2 ", "1 /2", "1/ 2", "1/2\n", "1.5", "1.5/2", "1/2.5", "1,5", "1e5", "1e5/3", "0x1/2", "1_0/3", "1:2", "1\\2",
		"x", "x/2", "1/x", "1x/2", "1/2x", "a/b", "1/2\x00", "\x00", "\xff/2", "1/\xff", "\u0661/2", "1/\u0663", "1\u20442", "\u00bd", "\u22121/2",
	} {
		wantError(t, s, api.ErrSyntax)
	}
}

// P2.1, P2.3: texts that are not in lowest terms, or have a denominator 0 or 1, or a sign at the wrong place.
func TestParseRejectsOtherTexts(t *testing.T) {
	for _, s := range []string{
		"2/4", "-2/4", "4/2", "3/3", "6/4", "-6/4", "10/15", "1000000000/500000001000000000", "999999999999/333333333333",
		"0/1", "0/2", "0/5", "0/10", "0/1000000000000000000000", "1/0", "0/0", "-1/0", "10/0", "100000000000000000000/0",
		"1/1", "3/1", "-3/1", "100000000000000000000/1", "1/-1", "1/-2", "-1/-2", "3/-1", "2/-4", "1/-0", "0/-1", "0/-5",
	} {
		wantError(t, s, api.ErrSyntax)
	}
}

// P2.6: 2000 digits are accepted, in the numerator and in the denominator; signs are no digits.
func TestParseLongTexts(t *testing.T) {
	nines, power := strings.Repeat("9", 2000), "1"+strings.Repeat("0", 1999)
	for _, s := range []string{nines, power, "1/" + nines, "1/" + power, nines + "/2", power + "/3", nines + "/" + power, power + "/" + nines,
		nines + "/" + nines[1:] + "8", nines[1:] + "8/" + nines, strings.Repeat("7", 1001) + "/" + power, power + "/" + strings.Repeat("3", 1500)} {
		wantText(t, "Parse", parse(t, s), s)
		wantText(t, "Parse", parse(t, "-"+s), "-"+s)
	}
}

// P2.1: 2001 digits, in the numerator or in the denominator or in both, are beyond the limit.
func TestParseLimitsDigits(t *testing.T) {
	nines, power := strings.Repeat("9", 2001), "1"+strings.Repeat("0", 2000)
	for _, s := range []string{nines, power, "1/" + nines, "1/" + power, nines + "/2", power + "/3", nines + "/" + power, power + "/" + nines,
		nines[1:] + "/" + power, power[:2000] + "1/" + nines[1:], power[:2000] + "/" + nines,
		strings.Repeat("7", 50000), strings.Repeat("9", 50000) + "/" + strings.Repeat("7", 20003), "1/" + strings.Repeat("7", 1000000),
		strings.Repeat("7", 1000000) + "/9",
	} {
		wantError(t, s, api.ErrLimit)
		wantError(t, "-"+s, api.ErrLimit)
	}
}

// P2.1: a text that is none of any number, of any size, is not beyond the limit.
func TestParseRejectsLongTexts(t *testing.T) {
	nines, power, zeros := strings.Repeat("9", 2001), "1"+strings.Repeat("0", 2000), strings.Repeat("0", 2001)
	for _, s := range []string{
		zeros, "-" + zeros, "0" + nines, "-0" + nines, "+" + nines, nines + "x", nines + "/", "/" + nines, nines + "/x", "x/" + nines, " " + nines,
		nines + "/0", nines + "/1", nines + "/-2", nines + "/00", nines + "/02", "1/-" + nines, "1/+" + nines, "1/0" + nines, "0/" + nines, "-0/" + nines,
		nines + "/-" + power, nines + "/" + zeros, zeros + "/" + nines, nines + "/2/3", "1/" + nines + "/2", nines + "//2", nines + "/" + power + "x",
		"2/4" + zeros, power + "/2", power + "/5", "5/" + power, nines + "/3", nines + "/111", "3/" + nines, nines + "/" + nines, power + "/" + power,
		power + "/" + power + "0", power + "0/" + power, nines + "/" + strings.Repeat("3", 2001), strings.Repeat("6", 3003) + "/" + strings.Repeat("9", 6006),
		"1" + power + "/" + power + "5", power + "/" + power[1:] + "2", power[:2000] + "/" + power, strings.Repeat("9", 1000) + "/" + strings.Repeat("9", 3000),
	} {
		wantError(t, s, api.ErrSyntax)
		wantError(t, "-"+s, api.ErrSyntax)
	}
}

// P2.1: every digit of a long text counts, wherever it is: the sum of the digits decides whether 3 is a common divisor.
func TestParseReadsAllDigits(t *testing.T) {
	for _, n := range []int{2001, 3000, 5000, 12345} {
		for i := 1; i < n; i += 97 {
			multiple := "1" + strings.Repeat("0", i-1) + "1" + strings.Repeat("0", n-i-1) + "1"
			other := "1" + strings.Repeat("0", i-1) + "3" + strings.Repeat("0", n-i-1) + "1"
			wantError(t, multiple+"/3", api.ErrSyntax)
			wantError(t, "3/"+multiple, api.ErrSyntax)
			wantError(t, other+"/3", api.ErrLimit)
			wantError(t, "-3/"+other, api.ErrLimit)
		}
	}
	for _, n := range []int{2001, 4001, 6001} {
		multiple, other := "1"+strings.Repeat("0", n)+"2", "1"+strings.Repeat("0", n)+"1"
		wantError(t, multiple+"/3"+strings.Repeat("0", n)+"3", api.ErrSyntax)
		wantError(t, multiple+"/"+other, api.ErrLimit)
		wantError(t, other+"/"+multiple, api.ErrLimit)
	}
}

// longText returns the text of a random integer with some digits, many of which are zeros.
func longText(r *rand.Rand, digits int) string {
	var b strings.Builder
	b.WriteByte(byte('1' + r.Intn(9)))
	for b.Len() < digits {
		b.WriteString(strings.Repeat("0", r.Intn(30)))
		b.WriteByte(byte('0' + r.Intn(10)))
	}
	return b.String()[:digits]
}

// P2.1: long texts are in lowest terms if their numbers are, as another implementation computes them.
func TestParseFindsLowestTermsOfLongTexts(t *testing.T) {
	r := rand.New(rand.NewSource(5))
	kinds := [2]int{}
	for range 150 {
		num, den := longText(r, 1+r.Intn(4500)), longText(r, 2001+r.Intn(2500))
		if r.Intn(2) == 0 {
			num, den = den, num
		}
		switch bigOf(t, num+"/"+den).RatString() {
		case num + "/" + den:
			wantError(t, num+"/"+den, api.ErrLimit)
			kinds[0]++
		default:
			wantError(t, num+"/"+den, api.ErrSyntax)
			kinds[1]++
		}
	}
	if kinds[0] < 10 || kinds[1] < 10 {
		t.Error("the texts are of one kind:", kinds)
	}
}

// P2.6
func TestTextRoundTrip(t *testing.T) {
	for _, s := range samples(300) {
		x := parse(t, s)
		wantText(t, "Text", x, s)
		wantEqual(t, "Parse", parse(t, rational.Text(x)), x)
	}
	for num := -40; num <= 40; num++ {
		for den := 1; den <= 40; den++ {
			x := of(t, num, den)
			wantEqual(t, "Parse", parse(t, rational.Text(x)), x)
		}
	}
}

// P2.6: also for numbers that are results, and are near the limit.
func TestTextOfResults(t *testing.T) {
	for _, s := range samples(20) {
		x := parse(t, s)
		for _, u := range samples(5) {
			y := parse(t, u)
			for _, z := range []rational.Rat{rational.Add(x, y), rational.Sub(x, y), rational.Mul(x, y), rational.Neg(x)} {
				wantEqual(t, "Parse", parse(t, rational.Text(z)), z)
			}
		}
	}
	r := rand.New(rand.NewSource(6))
	for range 30 {
		x, _ := rational.New(parseInteger(t, longText(r, 2000)), parseInteger(t, longText(r, 1+r.Intn(2000))))
		wantEqual(t, "Parse", parse(t, rational.Text(x)), x)
	}
}

// P2.1: Text is not limited as Parse is.
func TestTextOfLongNumbers(t *testing.T) {
	x, ten, zeros := of(t, 1, 1), of(t, -10, 1), ""
	for range 2500 {
		x = rational.Mul(x, ten)
		zeros += "0"
	}
	wantText(t, "10^2500", x, "1"+zeros)
	wantText(t, "10^-2500", quotient(t, of(t, -1, 1), x), "-1/1"+zeros)
	next := rational.Add(x, of(t, 1, 1))
	wantText(t, "10^2500 / (10^2500 + 1)", quotient(t, x, next), "1"+zeros+"/1"+zeros[1:]+"1")
	num, den := rational.Parts(quotient(t, next, x))
	wantInteger(t, "numerator", num, "1"+zeros[1:]+"1")
	wantInteger(t, "denominator", den, "1"+zeros)
}

package integer_test

import (
	"math"
	"math/big"
	"math/rand"
	"strings"
	"testing"

	"tallystone/api"
	"tallystone/integer"
)

// parse returns the integer with a text that a test knows to be right.
func parse(t *testing.T, s string) integer.Int {
	t.Helper()
	x, e := integer.Parse(s)
	if e != api.OK {
		t.Fatalf("Parse(%.40q): error %d", s, e)
	}
	return x
}

func wantText(t *testing.T, what string, x integer.Int, want string) {
	t.Helper()
	if got := integer.Text(x); got != want {
		t.Errorf("%s: got %.60s, want %.60s", what, got, want)
	}
}

func wantBig(t *testing.T, what string, x integer.Int, want *big.Int) {
	t.Helper()
	wantText(t, what, x, want.String())
}

func wantEqual(t *testing.T, what string, x, y integer.Int) {
	t.Helper()
	if integer.Cmp(x, y) != 0 || integer.Text(x) != integer.Text(y) {
		t.Errorf("%s: %.60s differs from %.60s", what, integer.Text(x), integer.Text(y))
	}
}

func bigOf(t *testing.T, s string) *big.Int {
	t.Helper()
	x, ok := new(big.Int).SetString(s, 10)
	if !ok {
		t.Fatalf("no number: %.40q", s)
	}
	return x
}

// edgeTexts are the absolute values around which representations of integers change.
func edgeTexts() []string {
	return []string{
		"0", "1", "2", "3", "9", "10", "9999", "10000", "10001",
		"499999999", "500000000", "999999999", "1000000000", "1000000001",
		"4294967295", "4294967296", "999999999999999999", "1000000000000000000",
		"9223372036854775806", "9223372036854775807", "9223372036854775808", "9223372036854775809",
		"18446744073709551615", "18446744073709551616", "18446744073709551617",
		"999999999999999999999999999", "1000000000000000000000000000", "1000000000000000000000000001",
		"340282366920938463463374607431768211456",
		"222232244629420445529739893505090668504", "137347080577163115432025771710279131845",
	}
}

// randomText returns the text of an absolute value with some groups of 9 digits, many of which are extreme ones.
func randomText(r *rand.Rand, groups int) string {
	extreme := []string{"000000000", "000000001", "499999999", "500000000", "999999998", "999999999"}
	var b strings.Builder
	for range groups {
		if r.Intn(2) == 0 {
			b.WriteString(extreme[r.Intn(len(extreme))])
			continue
		}
		for range 9 {
			b.WriteByte(byte('0' + r.Intn(10)))
		}
	}
	s := strings.TrimLeft(b.String(), "0")
	if s == "" {
		return "0"
	}
	return s
}

// samples returns texts of integers: the edges with both signs, and random ones.
func samples(random, groups int) []string {
	r := rand.New(rand.NewSource(1))
	abs := edgeTexts()
	for range random {
		abs = append(abs, randomText(r, 1+r.Intn(groups)))
	}
	var texts []string
	for _, s := range abs {
		texts = append(texts, s)
		if s != "0" {
			texts = append(texts, "-"+s)
		}
	}
	return texts
}

func TestExamplesOfTheChapter(t *testing.T) {
	wantText(t, "10^10 * 10^10", integer.Mul(integer.Of(10000000000), integer.Of(10000000000)), "100000000000000000000")
	for _, c := range []struct{ x, y, q, r int }{{-7, 2, -3, -1}, {7, -2, -3, 1}} {
		q, r, e := integer.QuoRem(integer.Of(c.x), integer.Of(c.y))
		if e != api.OK {
			t.Errorf("QuoRem(%d, %d): error %d", c.x, c.y, e)
		}
		wantEqual(t, "quotient", q, integer.Of(c.q))
		wantEqual(t, "remainder", r, integer.Of(c.r))
	}
	wantText(t, "GCD(-12, 18)", integer.GCD(integer.Of(-12), integer.Of(18)), "6")
	for _, s := range []string{"-0", "007", "+1", ""} {
		if _, e := integer.Parse(s); e != api.ErrSyntax {
			t.Errorf("Parse(%q): error %d", s, e)
		}
	}
}

// P1.1, P1: the zero value is the integer 0 for every function.
func TestZeroValue(t *testing.T) {
	zero, seven := integer.Int{}, integer.Of(7)
	wantText(t, "zero value", zero, "0")
	wantEqual(t, "zero value", zero, integer.Of(0))
	wantEqual(t, "Parse", parse(t, "0"), zero)
	wantText(t, "Neg", integer.Neg(zero), "0")
	wantText(t, "0 + 0", integer.Add(zero, zero), "0")
	wantText(t, "0 + 7", integer.Add(zero, seven), "7")
	wantText(t, "7 + 0", integer.Add(seven, zero), "7")
	wantText(t, "0 - 7", integer.Sub(zero, seven), "-7")
	wantText(t, "-7 + 7", integer.Add(integer.Of(-7), seven), "0")
	wantText(t, "0 * -7", integer.Mul(zero, integer.Of(-7)), "0")
	wantText(t, "GCD(0, 0)", integer.GCD(zero, zero), "0")
	wantText(t, "GCD(0, -7)", integer.GCD(zero, integer.Of(-7)), "7")
	wantText(t, "GCD(-7, 0)", integer.GCD(integer.Of(-7), zero), "7")
	if n, ok := integer.Small(zero); n != 0 || !ok {
		t.Error("Small:", n, ok)
	}
	if integer.Sign(zero) != 0 || integer.Sign(integer.Neg(zero)) != 0 {
		t.Error("Sign of 0")
	}
	if integer.Cmp(zero, integer.Of(-1)) != 1 || integer.Cmp(zero, integer.Of(1)) != -1 {
		t.Error("Cmp with 0")
	}
	for _, x := range []integer.Int{zero, integer.Sub(seven, seven), integer.Neg(zero)} {
		q, r, e := integer.QuoRem(x, integer.Of(-7))
		if e != api.OK || integer.Sign(q) != 0 || integer.Sign(r) != 0 {
			t.Error("0 / -7:", integer.Text(q), integer.Text(r), e)
		}
	}
}

// P1.1: Of and Small at the limits of int.
func TestSmallIntegers(t *testing.T) {
	for _, n := range []int{0, 1, -1, 9, 9999, -10000, 999999999, 1000000000, -1000000001, 999999999999999999,
		-1000000000000000000, math.MaxInt - 1, math.MaxInt, math.MinInt + 1, math.MinInt} {
		x := integer.Of(n)
		wantBig(t, "Of", x, big.NewInt(int64(n)))
		if k, ok := integer.Small(x); k != n || !ok {
			t.Error("Small:", n, k, ok)
		}
	}
	for _, s := range []string{"9223372036854775807", "-9223372036854775808"} {
		k, ok := integer.Small(parse(t, s))
		if big.NewInt(int64(k)).String() != s || !ok {
			t.Error("Small:", s, k, ok)
		}
	}
	for _, s := range []string{"9223372036854775808", "-9223372036854775809", "18446744073709551615",
		"18446744073709551616", "18446744073709551617", "-18446744073709551617", "1000000000000000000000000000",
		"-340282366920938463463374607431768211456", strings.Repeat("9", 2000)} {
		if k, ok := integer.Small(parse(t, s)); k != 0 || ok {
			t.Errorf("Small(%.40s): %d %v", s, k, ok)
		}
	}
}

// P1.1: arithmetic does not overflow at the limits of int.
func TestArithmeticAtTheLimitsOfInt(t *testing.T) {
	most, least, one := integer.Of(math.MaxInt), integer.Of(math.MinInt), integer.Of(-1)
	wantText(t, "Neg", integer.Neg(least), "9223372036854775808")
	wantText(t, "Add", integer.Add(most, integer.Of(1)), "9223372036854775808")
	wantText(t, "Sub", integer.Sub(least, integer.Of(1)), "-9223372036854775809")
	wantText(t, "Mul", integer.Mul(least, least), "85070591730234615865843651857942052864")
	q, r, e := integer.QuoRem(least, one)
	if e != api.OK || integer.Sign(r) != 0 {
		t.Error(integer.Text(r), e)
	}
	wantText(t, "quotient", q, "9223372036854775808")
	wantText(t, "GCD", integer.GCD(least, least), "9223372036854775808")
}

// P1.1, P1: a text that is none is an error, also beyond 2000 digits, and yields 0.
func TestParseRejectsMalformedTexts(t *testing.T) {
	nines := strings.Repeat("9", 2500)
	for _, s := range []string{"", "-", "+", "+1", "-0", "--1", "-+1", "+-1", "00", "01", "007", "-01", "-00",
		" ", " 1", "1 ", "1\n", "- 1", "1-", "1-1", "1.0", "1,000", "1_000", "1e5", "0x10", "x", "1x", "x1", "1/2",
		"\x00", "1\x00", "\xff", "1\xff2", "\xc3\x28", "\u0663", "\uff11", "1\u0661", "\u22121", "/", ":", "1:",
		strings.Repeat("0", 2000), strings.Repeat("0", 2001), "0" + nines, "-0" + nines, "+" + nines, nines + "x", nines + " "} {
		x, e := integer.Parse(s)
		if e != api.ErrSyntax || integer.Sign(x) != 0 {
			t.Errorf("Parse(%.40q): %.40s, error %d", s, integer.Text(x), e)
		}
	}
}

// P1.1: 2000 digits are accepted, 2001 are not; the sign is no digit.
func TestParseLimitsDigits(t *testing.T) {
	for _, s := range []string{strings.Repeat("9", 2000), "1" + strings.Repeat("0", 1999)} {
		wantText(t, "Parse", parse(t, s), s)
		wantText(t, "Parse", parse(t, "-"+s), "-"+s)
	}
	for _, s := range []string{strings.Repeat("9", 2001), "1" + strings.Repeat("0", 2000), strings.Repeat("7", 50000)} {
		for _, text := range []string{s, "-" + s} {
			x, e := integer.Parse(text)
			if e != api.ErrLimit || integer.Sign(x) != 0 {
				t.Errorf("Parse(%.40q, %d bytes): error %d", text, len(text), e)
			}
		}
	}
}

// P1.1: Text is not limited as Parse is.
func TestTextOfLongIntegers(t *testing.T) {
	x := integer.Of(-10)
	for range 13 {
		x = integer.Mul(x, x)
	}
	wantText(t, "10^8192", x, "1"+strings.Repeat("0", 8192))
	wantText(t, "10^8192 - 1", integer.Sub(x, integer.Of(1)), strings.Repeat("9", 8192))
	wantText(t, "-10^8192", integer.Neg(x), "-1"+strings.Repeat("0", 8192))
}

// P1.6
func TestTextRoundTrip(t *testing.T) {
	texts := samples(200, 30)
	for n := 1; n <= 2000; n += 37 {
		texts = append(texts, strings.Repeat("9", n), "-1"+strings.Repeat("0", n-1), "8"+strings.Repeat("0", n-1))
	}
	for _, s := range texts {
		x := parse(t, s)
		wantText(t, "Text", x, s)
		wantEqual(t, "Parse", parse(t, integer.Text(x)), x)
		if sign := bigOf(t, s).Sign(); integer.Sign(x) != sign {
			t.Errorf("Sign(%.40s): %d", s, integer.Sign(x))
		}
	}
}

// P1.6: also for integers that are results.
func TestTextOfResults(t *testing.T) {
	texts := samples(10, 6)
	for _, s := range texts {
		for _, u := range texts {
			x, y := parse(t, s), parse(t, u)
			for _, z := range []integer.Int{integer.Add(x, y), integer.Sub(x, y), integer.Mul(x, y), integer.GCD(x, y)} {
				wantEqual(t, "Parse", parse(t, integer.Text(z)), z)
			}
		}
	}
}

// P1.1: all functions of two integers, compared with those of another implementation.
func TestPairs(t *testing.T) {
	texts := samples(40, 12)
	for _, s := range texts {
		x, a := parse(t, s), bigOf(t, s)
		wantBig(t, "Neg", integer.Neg(x), new(big.Int).Neg(a))
		for _, u := range texts {
			y, b := parse(t, u), bigOf(t, u)
			wantBig(t, s+" + "+u, integer.Add(x, y), new(big.Int).Add(a, b))
			wantBig(t, s+" - "+u, integer.Sub(x, y), new(big.Int).Sub(a, b))
			wantBig(t, s+" * "+u, integer.Mul(x, y), new(big.Int).Mul(a, b))
			wantBig(t, "GCD of "+s+" and "+u, integer.GCD(x, y), new(big.Int).GCD(nil, nil, new(big.Int).Abs(a), new(big.Int).Abs(b)))
			if got := integer.Cmp(x, y); got != a.Cmp(b) {
				t.Errorf("Cmp(%s, %s) = %d", s, u, got)
			}
			if b.Sign() == 0 {
				continue
			}
			q, r, e := integer.QuoRem(x, y)
			if e != api.OK {
				t.Errorf("QuoRem(%s, %s): error %d", s, u, e)
			}
			wantBig(t, s+" / "+u, q, new(big.Int).Quo(a, b))
			wantBig(t, s+" rem "+u, r, new(big.Int).Rem(a, b))
		}
	}
}

// P1.2
func TestRing(t *testing.T) {
	texts := samples(4, 8)
	r := rand.New(rand.NewSource(2))
	zero, one := integer.Of(0), integer.Of(1)
	for range 5000 {
		x, y, z := parse(t, texts[r.Intn(len(texts))]), parse(t, texts[r.Intn(len(texts))]), parse(t, texts[r.Intn(len(texts))])
		wantEqual(t, "x + y", integer.Add(x, y), integer.Add(y, x))
		wantEqual(t, "x y", integer.Mul(x, y), integer.Mul(y, x))
		wantEqual(t, "x + y + z", integer.Add(integer.Add(x, y), z), integer.Add(x, integer.Add(y, z)))
		wantEqual(t, "x y z", integer.Mul(integer.Mul(x, y), z), integer.Mul(x, integer.Mul(y, z)))
		wantEqual(t, "x (y + z)", integer.Mul(x, integer.Add(y, z)), integer.Add(integer.Mul(x, y), integer.Mul(x, z)))
		wantEqual(t, "x - y", integer.Sub(x, y), integer.Add(x, integer.Neg(y)))
		wantEqual(t, "x - x", integer.Sub(x, x), zero)
		wantEqual(t, "x + 0", integer.Add(x, zero), x)
		wantEqual(t, "x 1", integer.Mul(x, one), x)
		wantEqual(t, "x 0", integer.Mul(x, zero), zero)
		wantEqual(t, "-(-x)", integer.Neg(integer.Neg(x)), x)
	}
}

func abs(x integer.Int) integer.Int {
	if integer.Sign(x) < 0 {
		return integer.Neg(x)
	}
	return x
}

func wantDivision(t *testing.T, x, y integer.Int) {
	t.Helper()
	q, r, e := integer.QuoRem(x, y)
	if e != api.OK {
		t.Errorf("error %d", e)
	}
	wantEqual(t, "q y + r", integer.Add(integer.Mul(q, y), r), x)
	if integer.Cmp(abs(r), abs(y)) >= 0 {
		t.Errorf("remainder %s of division by %s", integer.Text(r), integer.Text(y))
	}
	if integer.Sign(r) != 0 && integer.Sign(r) != integer.Sign(x) {
		t.Errorf("remainder %s of %s", integer.Text(r), integer.Text(x))
	}
}

// P1.3
func TestDivision(t *testing.T) {
	r := rand.New(rand.NewSource(3))
	for range 20000 {
		x, y := parse(t, randomText(r, 1+r.Intn(9))), parse(t, randomText(r, 1+r.Intn(5)))
		if integer.Sign(y) == 0 {
			continue
		}
		for _, v := range []integer.Int{x, integer.Neg(x)} {
			wantDivision(t, v, y)
			wantDivision(t, v, integer.Neg(y))
		}
	}
}

// P1.3: dividends just below a multiple of the divisor, for which digits of the quotient are easily estimated too high.
func TestDivisionNearMultiples(t *testing.T) {
	texts := samples(30, 6)
	for _, s := range texts {
		for _, u := range texts {
			y, q := parse(t, s), parse(t, u)
			if integer.Sign(y) == 0 {
				continue
			}
			for _, d := range []int{-1, 0, 1} {
				wantDivision(t, integer.Add(integer.Mul(q, y), integer.Of(d)), y)
			}
		}
	}
}

// P1.3: 0 as divisor.
func TestDivisionByZero(t *testing.T) {
	zeros := []integer.Int{{}, integer.Of(0), parse(t, "0"), integer.Neg(integer.Of(0)), integer.Sub(integer.Of(5), integer.Of(5))}
	for _, s := range samples(5, 5) {
		for _, zero := range zeros {
			q, r, e := integer.QuoRem(parse(t, s), zero)
			if e != api.ErrDivide || integer.Sign(q) != 0 || integer.Sign(r) != 0 {
				t.Errorf("%s / 0: %s %s, error %d", s, integer.Text(q), integer.Text(r), e)
			}
		}
	}
}

func wantDivides(t *testing.T, d, x integer.Int) {
	t.Helper()
	if integer.Sign(d) == 0 {
		if integer.Sign(x) != 0 {
			t.Errorf("0 as divisor of %s", integer.Text(x))
		}
		return
	}
	if _, r, _ := integer.QuoRem(x, d); integer.Sign(r) != 0 {
		t.Errorf("%s does not divide %s", integer.Text(d), integer.Text(x))
	}
}

// P1.4
func TestDivisors(t *testing.T) {
	texts := samples(60, 10)
	r := rand.New(rand.NewSource(4))
	for range 5000 {
		x, y, z := parse(t, texts[r.Intn(len(texts))]), parse(t, texts[r.Intn(len(texts))]), parse(t, texts[r.Intn(len(texts))])
		d := integer.GCD(x, y)
		if integer.Sign(d) < 0 {
			t.Errorf("negative divisor %s", integer.Text(d))
		}
		wantDivides(t, d, x)
		wantDivides(t, d, y)
		wantEqual(t, "GCD(z x, z y)", integer.GCD(integer.Mul(z, x), integer.Mul(z, y)), integer.Mul(abs(z), d))
		wantEqual(t, "GCD(y, x - y)", integer.GCD(y, integer.Sub(x, y)), d)
		wantEqual(t, "GCD(y, x)", integer.GCD(y, x), d)
		wantEqual(t, "GCD(-x, y)", integer.GCD(integer.Neg(x), y), d)
	}
}

// P1.4: neighbours in the Fibonacci sequence, for which Euclid's algorithm takes the most steps, times a common factor.
func TestDivisorsOfFibonacciNumbers(t *testing.T) {
	a, b := integer.Of(0), integer.Of(1)
	factor := parse(t, "123456789012345678901234567890")
	for range 3000 {
		a, b = b, integer.Add(a, b)
		wantText(t, "neighbours", integer.GCD(a, b), "1")
	}
	wantEqual(t, "multiples", integer.GCD(integer.Mul(a, factor), integer.Mul(integer.Neg(b), factor)), factor)
}

// P1.4: random pairs with a common factor, compared with another implementation.
func TestDivisorsOfRandomPairs(t *testing.T) {
	r := rand.New(rand.NewSource(5))
	for range 5000 {
		factor := bigOf(t, randomText(r, 1+r.Intn(10)))
		a := bigOf(t, randomText(r, 1+r.Intn(20)))
		b := bigOf(t, randomText(r, 1+r.Intn(20)))
		a.Mul(a, factor)
		b.Mul(b, factor)
		got := integer.GCD(parse(t, a.String()), parse(t, b.String()))
		wantBig(t, "GCD", got, new(big.Int).GCD(nil, nil, a, b))
	}
}

// P1.4: integers whose two highest limbs times the base are just below a multiple of 2^64.
func TestDivisorsNearWords(t *testing.T) {
	r := rand.New(rand.NewSource(7))
	for range 1000 {
		a := bigOf(t, "15817289833210771999999999"+strings.Repeat("8", 9*r.Intn(9)))
		b := bigOf(t, randomText(r, 1+r.Intn(12)))
		got := integer.GCD(parse(t, a.String()), parse(t, b.String()))
		wantBig(t, "GCD", got, new(big.Int).GCD(nil, nil, a, b))
	}
}

// P1.5
func TestOrder(t *testing.T) {
	texts := samples(10, 8)
	r := rand.New(rand.NewSource(6))
	for range 10000 {
		x, y, z := parse(t, texts[r.Intn(len(texts))]), parse(t, texts[r.Intn(len(texts))]), parse(t, texts[r.Intn(len(texts))])
		c := integer.Cmp(x, y)
		if c != integer.Sign(integer.Sub(x, y)) {
			t.Errorf("Cmp(%s, %s) = %d", integer.Text(x), integer.Text(y), c)
		}
		if integer.Cmp(y, x) != -c || integer.Cmp(x, x) != 0 {
			t.Errorf("Cmp(%s, %s) = %d", integer.Text(y), integer.Text(x), integer.Cmp(y, x))
		}
		if (c == 0) != (integer.Text(x) == integer.Text(y)) {
			t.Errorf("%s and %s compare as %d", integer.Text(x), integer.Text(y), c)
		}
		if integer.Cmp(integer.Add(x, z), integer.Add(y, z)) != c {
			t.Errorf("Cmp(%s, %s) changes by adding %s", integer.Text(x), integer.Text(y), integer.Text(z))
		}
		if c <= 0 && integer.Cmp(y, z) <= 0 && integer.Cmp(x, z) > 0 {
			t.Errorf("not transitive: %s, %s, %s", integer.Text(x), integer.Text(y), integer.Text(z))
		}
	}
}

// P1.1: no function changes its arguments (rule 5 of the document).
func TestArgumentsAreKept(t *testing.T) {
	texts := samples(10, 6)
	for _, s := range texts {
		for _, u := range texts {
			x, y := parse(t, s), parse(t, u)
			integer.Add(x, y)
			integer.Sub(x, y)
			integer.Mul(x, y)
			integer.QuoRem(x, y)
			integer.GCD(x, y)
			integer.Cmp(x, y)
			integer.Neg(x)
			wantText(t, "first argument", x, s)
			wantText(t, "second argument", y, u)
		}
	}
}

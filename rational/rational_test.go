package rational_test

import (
	"math"
	"math/big"
	"math/rand"
	"testing"

	"tallystone/api"
	"tallystone/integer"
	"tallystone/rational"
)

// parse returns the number with a text that a test knows to be right.
func parse(t *testing.T, s string) rational.Rat {
	t.Helper()
	x, e := rational.Parse(s)
	if e != api.OK {
		t.Fatalf("Parse(%.40q): error %d", s, e)
	}
	return x
}

func parseInteger(t *testing.T, s string) integer.Int {
	t.Helper()
	x, e := integer.Parse(s)
	if e != api.OK {
		t.Fatalf("integer.Parse(%.40q): error %d", s, e)
	}
	return x
}

// of returns num / den, for a den other than 0.
func of(t *testing.T, num, den int) rational.Rat {
	t.Helper()
	x, e := rational.Of(num, den)
	if e != api.OK {
		t.Fatalf("Of(%d, %d): error %d", num, den, e)
	}
	return x
}

// quotient returns x / y, for a y other than 0.
func quotient(t *testing.T, x, y rational.Rat) rational.Rat {
	t.Helper()
	z, e := rational.Div(x, y)
	if e != api.OK {
		t.Fatalf("Div(%s, %s): error %d", rational.Text(x), rational.Text(y), e)
	}
	return z
}

func wantText(t *testing.T, what string, x rational.Rat, want string) {
	t.Helper()
	if got := rational.Text(x); got != want {
		t.Errorf("%s: got %.80s, want %.80s", what, got, want)
	}
}

func wantInteger(t *testing.T, what string, x integer.Int, want string) {
	t.Helper()
	if got := integer.Text(x); got != want {
		t.Errorf("%s: got %.80s, want %.80s", what, got, want)
	}
}

func wantBig(t *testing.T, what string, x rational.Rat, want *big.Rat) {
	t.Helper()
	wantText(t, what, x, want.RatString())
	wantLowestTerms(t, what, x)
}

func wantEqual(t *testing.T, what string, x, y rational.Rat) {
	t.Helper()
	if rational.Cmp(x, y) != 0 || rational.Text(x) != rational.Text(y) {
		t.Errorf("%s: %.80s differs from %.80s", what, rational.Text(x), rational.Text(y))
	}
}

func wantLowestTerms(t *testing.T, what string, x rational.Rat) {
	t.Helper()
	num, den := rational.Parts(x)
	if integer.Sign(den) != 1 {
		t.Errorf("%s: denominator %s", what, integer.Text(den))
	}
	wantInteger(t, what+": common divisor", integer.GCD(num, den), "1")
}

func wantZero(t *testing.T, what string, x rational.Rat) {
	t.Helper()
	wantEqual(t, what, x, rational.Rat{})
	if rational.Sign(x) != 0 {
		t.Errorf("%s: sign %d", what, rational.Sign(x))
	}
}

func bigOf(t *testing.T, s string) *big.Rat {
	t.Helper()
	x, ok := new(big.Rat).SetString(s)
	if !ok {
		t.Fatalf("no number: %.40q", s)
	}
	return x
}

// edgeTexts are texts of numbers around which arithmetic changes: units, halves, and numbers beyond the range of int.
func edgeTexts() []string {
	return []string{
		"0", "1", "-1", "2", "-2", "10", "-7", "1/2", "-1/2", "3/2", "-3/2", "5/2", "-5/2", "1/3", "-1/3", "2/3", "-2/3",
		"1/6", "-1/6", "49/100", "51/100", "-49/100", "-51/100", "22/7", "-22/7", "999999999/1000000000",
		"1000000000/999999999", "-1000000001/1000000000", "9223372036854775807", "-9223372036854775808",
		"1/9223372036854775807", "-1/9223372036854775808", "9223372036854775807/9223372036854775808",
		"9223372036854775809/2", "-18446744073709551617/2", "1/18446744073709551616",
		"340282366920938463463374607431768211457/340282366920938463463374607431768211456",
		"-1000000000000000000000000000000/999999999999999999999999999999",
	}
}

// randomNumber returns a number with small terms that have many common divisors with those of others, or with large ones.
func randomNumber(r *rand.Rand) *big.Rat {
	if r.Intn(3) > 0 {
		return big.NewRat(int64(r.Intn(121)-60), int64(1+r.Intn(60)))
	}
	num, den := r.Int63()-r.Int63(), 1+r.Int63()
	x := big.NewRat(num, den)
	if r.Intn(2) == 0 {
		x.Mul(x, big.NewRat(r.Int63(), 1+r.Int63n(1000)))
	}
	return x
}

// samples returns the edges and random numbers, as texts.
func samples(random int) []string {
	r := rand.New(rand.NewSource(1))
	texts := edgeTexts()
	for range random {
		texts = append(texts, randomNumber(r).RatString())
	}
	return texts
}

// triples calls check for many triples of samples.
func triples(t *testing.T, check func(x, y, z rational.Rat)) {
	t.Helper()
	texts := samples(60)
	r := rand.New(rand.NewSource(2))
	for range 4000 {
		check(parse(t, texts[r.Intn(len(texts))]), parse(t, texts[r.Intn(len(texts))]), parse(t, texts[r.Intn(len(texts))]))
	}
}

func TestExamplesOfTheChapter(t *testing.T) {
	wantText(t, "Of(6, -4)", of(t, 6, -4), "-3/2")
	wantText(t, "1/3 + 1/6", rational.Add(of(t, 1, 3), of(t, 1, 6)), "1/2")
	wantInteger(t, "Round(5/2)", rational.Round(of(t, 5, 2)), "3")
	wantInteger(t, "Round(-5/2)", rational.Round(of(t, -5, 2)), "-3")
	if n, e := rational.Scale(100, of(t, 2, 3)); n != 67 || e != api.OK {
		t.Error("Scale(100, 2/3):", n, e)
	}
	for _, s := range []string{"2/4", "3/1", "1/-2", "0/5"} {
		if _, e := rational.Parse(s); e != api.ErrSyntax {
			t.Errorf("Parse(%q): error %d", s, e)
		}
	}
}

// P2.1, P2.3, P1: the zero value is the number 0 for every function.
func TestZeroValue(t *testing.T) {
	zero, x := rational.Rat{}, of(t, -2, 3)
	wantText(t, "zero value", zero, "0")
	num, den := rational.Parts(zero)
	wantInteger(t, "numerator", num, "0")
	wantInteger(t, "denominator", den, "1")
	wantInteger(t, "Round", rational.Round(zero), "0")
	wantZero(t, "Neg", rational.Neg(zero))
	wantZero(t, "0 + 0", rational.Add(zero, zero))
	wantZero(t, "0 - 0", rational.Sub(zero, zero))
	wantZero(t, "0 * 0", rational.Mul(zero, zero))
	wantText(t, "0 + x", rational.Add(zero, x), "-2/3")
	wantText(t, "x + 0", rational.Add(x, zero), "-2/3")
	wantText(t, "0 - x", rational.Sub(zero, x), "2/3")
	wantText(t, "x - 0", rational.Sub(x, zero), "-2/3")
	wantZero(t, "0 * x", rational.Mul(zero, x))
	wantZero(t, "x * 0", rational.Mul(x, zero))
	wantZero(t, "0 / x", quotient(t, zero, x))
	for _, n := range []int{0, 1, -1, api.MaxAmount, -api.MaxAmount} {
		if got, e := rational.Scale(n, zero); got != 0 || e != api.OK {
			t.Error("Scale:", n, got, e)
		}
	}
	if rational.Cmp(zero, x) != 1 || rational.Cmp(x, zero) != -1 || rational.Cmp(zero, zero) != 0 {
		t.Error("Cmp with 0")
	}
	for _, y := range []rational.Rat{parse(t, "0"), of(t, 0, -7), rational.Sub(x, x), rational.Neg(zero), rational.Neg(of(t, 0, 1))} {
		wantZero(t, "0", y)
		wantText(t, "0", y, "0")
		wantLowestTerms(t, "0", y)
	}
}

// P2.1: the denominator and the divisor 0.
func TestDivisionByZero(t *testing.T) {
	zeros := []rational.Rat{{}, of(t, 0, 5), parse(t, "0"), rational.Sub(of(t, 1, 3), of(t, 1, 3))}
	for _, s := range samples(10) {
		for _, zero := range zeros {
			q, e := rational.Div(parse(t, s), zero)
			if e != api.ErrDivide {
				t.Errorf("%s / 0: error %d", s, e)
			}
			wantZero(t, "result", q)
		}
	}
	for _, num := range []int{0, 1, -1, math.MaxInt, math.MinInt} {
		x, e := rational.Of(num, 0)
		if e != api.ErrDivide {
			t.Errorf("Of(%d, 0): error %d", num, e)
		}
		wantZero(t, "Of", x)
		x, e = rational.New(integer.Of(num), integer.Int{})
		if e != api.ErrDivide {
			t.Errorf("New(%d, 0): error %d", num, e)
		}
		wantZero(t, "New", x)
	}
}

// P2.1, P2.3: quotients of ints, also at the limits of int.
func TestOf(t *testing.T) {
	ints := []int{0, 1, -1, 2, -3, 4, 6, -12, 100, 1000000000, -999999999, math.MaxInt, math.MaxInt - 1, math.MinInt, math.MinInt + 1}
	for _, num := range ints {
		for _, den := range ints {
			if den != 0 {
				wantBig(t, "Of", of(t, num, den), big.NewRat(1, 1).SetFrac(big.NewInt(int64(num)), big.NewInt(int64(den))))
			}
		}
	}
}

// P2.3: multiplying numerator and denominator by the same integer makes the same number.
func TestLowestTerms(t *testing.T) {
	factors := []string{"1", "-1", "2", "-6", "1000000007", "-9223372036854775808", "123456789012345678901234567890"}
	for _, s := range samples(60) {
		x := parse(t, s)
		wantLowestTerms(t, s, x)
		num, den := rational.Parts(x)
		for _, f := range factors {
			factor := parseInteger(t, f)
			y, e := rational.New(integer.Mul(num, factor), integer.Mul(den, factor))
			if e != api.OK {
				t.Errorf("New: error %d", e)
			}
			wantEqual(t, "multiples by "+f, y, x)
			wantLowestTerms(t, "multiples by "+f, y)
		}
	}
}

// P2.1, P2.3: all functions of two numbers, compared with those of another implementation.
func TestPairs(t *testing.T) {
	texts := samples(40)
	for _, s := range texts {
		x, a := parse(t, s), bigOf(t, s)
		wantBig(t, "Neg", rational.Neg(x), new(big.Rat).Neg(a))
		if got := rational.Sign(x); got != a.Sign() {
			t.Errorf("Sign(%s) = %d", s, got)
		}
		num, den := rational.Parts(x)
		wantInteger(t, "numerator", num, a.Num().String())
		wantInteger(t, "denominator", den, a.Denom().String())
		for _, u := range texts {
			y, b := parse(t, u), bigOf(t, u)
			wantBig(t, s+" + "+u, rational.Add(x, y), new(big.Rat).Add(a, b))
			wantBig(t, s+" - "+u, rational.Sub(x, y), new(big.Rat).Sub(a, b))
			wantBig(t, s+" * "+u, rational.Mul(x, y), new(big.Rat).Mul(a, b))
			if got := rational.Cmp(x, y); got != a.Cmp(b) {
				t.Errorf("Cmp(%s, %s) = %d", s, u, got)
			}
			if b.Sign() != 0 {
				wantBig(t, s+" : "+u, quotient(t, x, y), new(big.Rat).Quo(a, b))
			}
		}
	}
}

// P2.2
func TestField(t *testing.T) {
	one := of(t, 1, 1)
	triples(t, func(x, y, z rational.Rat) {
		wantEqual(t, "x + y", rational.Add(x, y), rational.Add(y, x))
		wantEqual(t, "x y", rational.Mul(x, y), rational.Mul(y, x))
		wantEqual(t, "x + y + z", rational.Add(rational.Add(x, y), z), rational.Add(x, rational.Add(y, z)))
		wantEqual(t, "x y z", rational.Mul(rational.Mul(x, y), z), rational.Mul(x, rational.Mul(y, z)))
		wantEqual(t, "x (y + z)", rational.Mul(x, rational.Add(y, z)), rational.Add(rational.Mul(x, y), rational.Mul(x, z)))
		wantEqual(t, "x + y - y", rational.Sub(rational.Add(x, y), y), x)
		wantEqual(t, "x - y + y", rational.Add(rational.Sub(x, y), y), x)
		wantEqual(t, "x - y", rational.Sub(x, y), rational.Add(x, rational.Neg(y)))
		wantEqual(t, "x 1", rational.Mul(x, one), x)
		wantEqual(t, "-(-x)", rational.Neg(rational.Neg(x)), x)
		wantZero(t, "x - x", rational.Sub(x, x))
		if rational.Sign(y) != 0 {
			wantEqual(t, "x y / y", quotient(t, rational.Mul(x, y), y), x)
			wantEqual(t, "x / y y", rational.Mul(quotient(t, x, y), y), x)
			wantText(t, "y / y", quotient(t, y, y), "1")
		}
	})
}

// P2.4
func TestOrder(t *testing.T) {
	triples(t, func(x, y, z rational.Rat) {
		order := rational.Cmp(x, y)
		if order != rational.Sign(rational.Sub(x, y)) || order != -rational.Cmp(y, x) || rational.Cmp(x, x) != 0 {
			t.Errorf("Cmp(%s, %s) = %d", rational.Text(x), rational.Text(y), order)
		}
		if order <= 0 && rational.Cmp(y, z) <= 0 && rational.Cmp(x, z) > 0 {
			t.Errorf("no order of %s, %s, %s", rational.Text(x), rational.Text(y), rational.Text(z))
		}
		if rational.Cmp(rational.Mul(x, z), rational.Mul(y, z)) != order*rational.Sign(z) {
			t.Errorf("order of %s and %s, multiplied by %s", rational.Text(x), rational.Text(y), rational.Text(z))
		}
		if rational.Cmp(rational.Neg(x), rational.Neg(y)) != -order {
			t.Errorf("order of the negatives of %s and %s", rational.Text(x), rational.Text(y))
		}
	})
}

// P2.4: numbers that are nearly the same.
func TestOrderOfNeighbours(t *testing.T) {
	for _, c := range []struct{ low, high string }{
		{"0", "1/1000000000000000000000"},
		{"2/3", "667/1000"},
		{"1/3", "333333333333333334/1000000000000000001"},
		{"99999999999999999999/100000000000000000000", "100000000000000000000/100000000000000000001"},
		{"9223372036854775807", "9223372036854775808"},
	} {
		low, high := parse(t, c.low), parse(t, c.high)
		for _, got := range []int{
			rational.Cmp(high, low), rational.Cmp(rational.Neg(low), rational.Neg(high)),
			rational.Sign(rational.Sub(high, low)), -rational.Cmp(low, high),
		} {
			if got != 1 {
				t.Errorf("order of %s and %s: %d", c.low, c.high, got)
			}
		}
	}
}

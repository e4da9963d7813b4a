package rational_test

import (
	"math"
	"math/big"
	"math/rand"
	"strings"
	"testing"

	"tallystone/api"
	"tallystone/integer"
	"tallystone/rational"
)

// roundedText returns the text of a number, rounded, as another implementation rounds it.
func roundedText(x *big.Rat) string {
	s := x.FloatString(0)
	if s == "-0" {
		return "0"
	}
	return s
}

// P2.1: halves of both signs, and what is just below and above them.
func TestRound(t *testing.T) {
	long := strings.Repeat("3", 1000)
	for _, c := range []struct{ x, want string }{
		{"0", "0"}, {"1", "1"}, {"-1", "-1"}, {"4", "4"}, {"-9223372036854775808", "-9223372036854775808"},
		{"1/2", "1"}, {"-1/2", "-1"}, {"3/2", "2"}, {"-3/2", "-2"}, {"5/2", "3"}, {"-5/2", "-3"}, {"7/2", "4"}, {"-7/2", "-4"},
		{"1/3", "0"}, {"-1/3", "0"}, {"2/3", "1"}, {"-2/3", "-1"}, {"7/3", "2"}, {"-7/3", "-2"}, {"8/3", "3"}, {"-8/3", "-3"},
		{"49/100", "0"}, {"-49/100", "0"}, {"51/100", "1"}, {"-51/100", "-1"}, {"149/100", "1"}, {"-151/100", "-2"},
		{"499999999999999999999/1000000000000000000000", "0"}, {"-500000000000000000001/1000000000000000000000", "-1"},
		{"18446744073709551617/2", "9223372036854775809"}, {"-18446744073709551617/2", "-9223372036854775809"},
		{long + "/2", "1" + strings.Repeat("6", 998) + "7"}, {"1/" + long, "0"}, {"-1/" + long, "0"},
	} {
		wantInteger(t, "Round("+c.x+")", rational.Round(parse(t, c.x)), c.want)
	}
}

// P2.1: rounding compared with that of another implementation.
func TestRoundOfMany(t *testing.T) {
	for num := -60; num <= 60; num++ {
		for den := 1; den <= 12; den++ {
			wantInteger(t, "Round", rational.Round(of(t, num, den)), roundedText(big.NewRat(int64(num), int64(den))))
		}
	}
	for _, s := range samples(300) {
		wantInteger(t, "Round("+s+")", rational.Round(parse(t, s)), roundedText(bigOf(t, s)))
	}
}

// P2.5
func TestRounding(t *testing.T) {
	half := of(t, 1, 2)
	triples(t, func(x, y, z rational.Rat) {
		rounded := rational.Round(x)
		whole, _ := rational.New(rounded, integer.Of(1))
		distance := rational.Sub(whole, x)
		if rational.Cmp(distance, half) > 0 || rational.Cmp(distance, rational.Neg(half)) < 0 {
			t.Errorf("Round(%s) = %s", rational.Text(x), integer.Text(rounded))
		}
		if rational.Cmp(rational.Mul(distance, distance), of(t, 1, 4)) == 0 && rational.Sign(distance) != rational.Sign(x) {
			t.Errorf("half %s: %s", rational.Text(x), integer.Text(rounded))
		}
		wantInteger(t, "Round(-x)", rational.Round(rational.Neg(x)), integer.Text(integer.Neg(rounded)))
		if rational.Cmp(x, y) <= 0 && integer.Cmp(rounded, rational.Round(y)) > 0 {
			t.Errorf("Round decreases from %s to %s", rational.Text(x), rational.Text(y))
		}
	})
}

// P2.5: Round does not decrease along a line of near numbers, and increases by 1 at the halves only.
func TestRoundingDoesNotDecrease(t *testing.T) {
	last := rational.Round(of(t, -301, 100))
	for num := -300; num <= 300; num++ {
		x := of(t, num, 100)
		rounded := rational.Round(x)
		step := integer.Sub(rounded, last)
		want := "0"
		if atHalf := (num+300)%100 == 50; atHalf && num > 0 || (num+300)%100 == 51 && num < 0 {
			want = "1"
		}
		wantInteger(t, "step to "+rational.Text(x), step, want)
		last = rounded
	}
}

// P2.1: amounts at and beyond the limit, as arguments and as results.
func TestScale(t *testing.T) {
	const most = api.MaxAmount
	for _, c := range []struct {
		n    int
		x    string
		want int
		e    api.Errno
	}{
		{100, "2/3", 67, api.OK}, {-100, "2/3", -67, api.OK}, {100, "-2/3", -67, api.OK}, {-100, "-2/3", 67, api.OK},
		{1, "1/2", 1, api.OK}, {-1, "1/2", -1, api.OK}, {1, "-1/2", -1, api.OK}, {5, "1/2", 3, api.OK}, {-5, "1/2", -3, api.OK},
		{1, "49/100", 0, api.OK}, {-1, "49/100", 0, api.OK}, {3, "1/3", 1, api.OK}, {0, "22/7", 0, api.OK}, {7, "0", 0, api.OK},
		{most, "1", most, api.OK}, {-most, "1", -most, api.OK}, {most, "-1", -most, api.OK}, {-most, "-1", most, api.OK},
		{most - 1, "1", most - 1, api.OK}, {most, "0", 0, api.OK}, {1, "1000000000000", most, api.OK},
		{most - 1, "1/1000000000000", 1, api.OK}, {most, "1/3", 333333333333, api.OK}, {most, "1/2000000000000", 1, api.OK},
		{most, "1/2000000000001", 0, api.OK}, {most / 2, "2", most, api.OK}, {-most / 2, "2", -most, api.OK},
		// The rounded result counts: less than 1/2 beyond the limit is an amount.
		{1, "2000000000001/2", 0, api.ErrRange}, {1, "4000000000001/4", most, api.OK}, {-1, "4000000000001/4", -most, api.OK},
		{-1, "2000000000001/2", 0, api.ErrRange}, {1, "1999999999999/2", most, api.OK}, {-1, "1999999999999/2", -most, api.OK},
		{most, "1000000000001/1000000000000", 0, api.ErrRange}, {most, "-1000000000001/1000000000000", 0, api.ErrRange},
		{most, "2000000000001/2000000000000", 0, api.ErrRange}, {most, "4000000000001/4000000000000", most, api.OK},
		{1, "1000000000001", 0, api.ErrRange}, {1, "-1000000000001", 0, api.ErrRange}, {2, "1000000000000", 0, api.ErrRange},
		{1, "9223372036854775807", 0, api.ErrRange}, {1, "9223372036854775808", 0, api.ErrRange},
		{1, "18446744073709551616", 0, api.ErrRange}, {-1, "18446744073709551617", 0, api.ErrRange},
		{most, strings.Repeat("9", 2000), 0, api.ErrRange}, {1, "-1" + strings.Repeat("0", 1000), 0, api.ErrRange},
		{0, strings.Repeat("9", 2000), 0, api.OK}, {most, "1/" + strings.Repeat("9", 2000), 0, api.OK},
		// An argument that is no amount is named first.
		{most + 1, "0", 0, api.ErrArg}, {-most - 1, "0", 0, api.ErrArg}, {most + 1, "1/2", 0, api.ErrArg},
		{-most - 1, "1000000", 0, api.ErrArg}, {math.MaxInt, "1", 0, api.ErrArg}, {math.MinInt, "1", 0, api.ErrArg},
		{math.MinInt, "0", 0, api.ErrArg}, {math.MaxInt, strings.Repeat("9", 2000), 0, api.ErrArg},
	} {
		if n, e := rational.Scale(c.n, parse(t, c.x)); n != c.want || e != c.e {
			t.Errorf("Scale(%d, %.40s): %d, error %d", c.n, c.x, n, e)
		}
	}
}

// randomAmount returns a small amount, one near the limit, or any one.
func randomAmount(r *rand.Rand) int {
	n := r.Intn(api.MaxAmount + 1)
	switch r.Intn(3) {
	case 0:
		n = r.Intn(1000)
	case 1:
		n = api.MaxAmount - r.Intn(10)
	}
	if r.Intn(2) == 0 {
		return -n
	}
	return n
}

// P2.1: Scale is the product, rounded, compared with that of another implementation.
func TestScaleOfMany(t *testing.T) {
	texts := samples(200)
	r := rand.New(rand.NewSource(3))
	for range 10000 {
		n, s := randomAmount(r), texts[r.Intn(len(texts))]
		want := roundedText(new(big.Rat).Mul(big.NewRat(int64(n), 1), bigOf(t, s)))
		got, e := rational.Scale(n, parse(t, s))
		switch product, isShort := new(big.Int).SetString(want, 10); {
		case !isShort:
			t.Fatal("no integer:", want)
		case product.CmpAbs(big.NewInt(api.MaxAmount)) > 0:
			if got != 0 || e != api.ErrRange {
				t.Errorf("Scale(%d, %s): %d, error %d", n, s, got, e)
			}
		case big.NewInt(int64(got)).String() != want || e != api.OK:
			t.Errorf("Scale(%d, %s): %d, error %d", n, s, got, e)
		}
	}
}

// P2.5: the rounded parts of an amount differ from the rounded whole by at most 1, and both have the same sign.
func TestScaleOfParts(t *testing.T) {
	r := rand.New(rand.NewSource(4))
	differences := 0
	for range 20000 {
		x := of(t, r.Intn(20001)-10000, 1+r.Intn(10000))
		amount, n := r.Intn(2000001)-1000000, r.Intn(2000001)-1000000
		whole, e := rational.Scale(amount, x)
		left, f := rational.Scale(n, x)
		right, g := rational.Scale(amount-n, x)
		if e != api.OK || f != api.OK || g != api.OK {
			t.Fatal("errors", e, f, g)
		}
		difference := left + right - whole
		if difference < -1 || difference > 1 {
			t.Errorf("%d and %d of %d, times %s: %d + %d, whole %d", n, amount-n, amount, rational.Text(x), left, right, whole)
		}
		if difference != 0 {
			differences++
		}
	}
	if differences == 0 {
		t.Error("no parts were rounded differently from their whole")
	}
}

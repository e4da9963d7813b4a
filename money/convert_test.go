package money_test

import (
	"math"
	"math/big"
	"math/rand"
	"testing"

	"tallystone/api"
	"tallystone/money"
)

// convert returns an amount in another currency that a test knows to be an amount.
func convert(t *testing.T, n, rate int) int {
	t.Helper()
	converted, e := money.Convert(n, rate)
	if e != api.OK {
		t.Fatalf("Convert(%d, %d): error %d", n, rate, e)
	}
	return converted
}

// product returns n * num / den as another implementation rounds it: as the whole part of the absolute value and a half.
func product(n, num, den int) (int, api.Errno) {
	absolute := big.NewInt(int64(max(n, -n)))
	twice := new(big.Int).Mul(absolute, big.NewInt(2*int64(num)))
	twice.Add(twice, big.NewInt(int64(den)))
	rounded := twice.Div(twice, big.NewInt(2*int64(den)))
	switch {
	case rounded.Cmp(big.NewInt(most)) > 0:
		return 0, api.ErrRange
	case n < 0:
		return -int(rounded.Int64()), api.OK
	}
	return int(rounded.Int64()), api.OK
}

// P4.1: the examples, halves, rates at the limits, results at the limits and beyond them, also beyond every int.
func TestConvert(t *testing.T) {
	for _, c := range []struct {
		n, rate, want int
		e             api.Errno
	}{
		{1050, 1100000, 1155, api.OK}, {5, 100000, 1, api.OK}, {-5, 100000, -1, api.OK}, {4, 100000, 0, api.OK}, {-4, 100000, 0, api.OK},
		{15, 100000, 2, api.OK}, {14, 100000, 1, api.OK}, {25, 100000, 3, api.OK}, {-15, 100000, -2, api.OK}, {-16, 100000, -2, api.OK},
		{1, 500000, 1, api.OK}, {1, 499999, 0, api.OK}, {-1, 500000, -1, api.OK}, {-1, 499999, 0, api.OK}, {1, 1500000, 2, api.OK},
		{1, 1499999, 1, api.OK}, {-1, 2500000, -3, api.OK}, {200, 950000, 190, api.OK}, {0, 1, 0, api.OK}, {0, most, 0, api.OK},
		{500000, 1, 1, api.OK}, {499999, 1, 0, api.OK}, {-500000, 1, -1, api.OK}, {most, 1, 1000000, api.OK}, {-most, 1, -1000000, api.OK},
		{most, 1000000, most, api.OK}, {-most, 1000000, -most, api.OK}, {most, 999999, most - 1000000, api.OK},
		{1, most, 1000000, api.OK}, {1000000, most, most, api.OK}, {-1000000, most, -most, api.OK}, {most / 2, 2000000, most, api.OK},
		{1, most - 1, 1000000, api.OK}, {999999, most, most - 1000000, api.OK},
		// The exact products are next to the greatest amount, or differ from it by a half.
		{521784503, 1916500000, most, api.OK}, {-521784503, 1916500000, -most, api.OK}, {13211654, 75690750000, 0, api.ErrRange},
		{1000001, 999999000001, most, api.OK}, {1000001, 999999000002, 0, api.ErrRange}, {-1000001, 999999000002, 0, api.ErrRange},
		{most - 1, 1000001, 0, api.ErrRange}, {499999999999, 2000003, 0, api.ErrRange}, {most - 1, 1000000, most - 1, api.OK},
		{most, 1000001, 0, api.ErrRange}, {-most, 1000001, 0, api.ErrRange}, {-1000001, most, 0, api.ErrRange}, {1000001, most, 0, api.ErrRange},
		{most, most, 0, api.ErrRange}, {-most, most, 0, api.ErrRange}, {most/2 + 1, 2000000, 0, api.ErrRange}, {most - 1, most - 1, 0, api.ErrRange},
		{1, 0, 0, api.ErrArg}, {1, -1, 0, api.ErrArg}, {1, most + 1, 0, api.ErrArg}, {0, 0, 0, api.ErrArg}, {0, most + 1, 0, api.ErrArg},
		{most + 1, 1, 0, api.ErrArg}, {-most - 1, 1, 0, api.ErrArg}, {most + 1, most, 0, api.ErrArg}, {most + 1, 0, 0, api.ErrArg},
		{math.MaxInt, 1000000, 0, api.ErrArg}, {math.MinInt, 1000000, 0, api.ErrArg}, {1, math.MaxInt, 0, api.ErrArg}, {1, math.MinInt, 0, api.ErrArg},
	} {
		if n, e := money.Convert(c.n, c.rate); n != c.want || e != c.e {
			t.Errorf("Convert(%d, %d): %d, error %d, not %d, error %d", c.n, c.rate, n, e, c.want, c.e)
		}
	}
}

// P4.1: halves for even and odd denominators, the limits of both terms, and results at the limits and beyond them.
func TestPortion(t *testing.T) {
	for _, c := range []struct {
		n, num, den, want int
		e                 api.Errno
	}{
		{7, 1, 2, 4, api.OK}, {-7, 1, 2, -4, api.OK}, {10, 1, 3, 3, api.OK}, {10, 2, 3, 7, api.OK}, {-10, 1, 3, -3, api.OK}, {-10, 2, 3, -7, api.OK},
		{10, 0, 3, 0, api.OK}, {-10, 0, 3, 0, api.OK}, {0, most, 1, 0, api.OK}, {0, 0, 1, 0, api.OK}, {10, 9, 3, 30, api.OK}, {1, 1, 1, 1, api.OK},
		{100, 8000, 10000, 80, api.OK}, {1, 5, 10, 1, api.OK}, {1, 4, 10, 0, api.OK}, {3, 2, 5, 1, api.OK}, {4, 2, 5, 2, api.OK}, {1, 15, 10, 2, api.OK},
		{1, 1, 1000000, 0, api.OK}, {1, 499999, 1000000, 0, api.OK}, {1, 500000, 1000000, 1, api.OK}, {1, 499999, 999999, 0, api.OK},
		{1, 500000, 999999, 1, api.OK}, {-1, 500000, 999999, -1, api.OK}, {-1, 499999, 999999, 0, api.OK}, {1, 499999, 999998, 1, api.OK},
		{most, 999999, 1000000, most - 1000000, api.OK}, {most, 1, 1, most, api.OK}, {-most, 1, 1, -most, api.OK}, {1, most, 1, most, api.OK},
		{-1, most, 1, -most, api.OK}, {1, most, 1000000, 1000000, api.OK}, {1000000, most, 1000000, most, api.OK}, {most, 3, 3, most, api.OK},
		{most, 999999, 999999, most, api.OK}, {2, most / 2, 1, most, api.OK}, {most, 0, 1000000, 0, api.OK}, {-most, 1, 1000000, -1000000, api.OK},
		{2, most - 1, 2, most - 1, api.OK}, {3, 999999999999, 3, 999999999999, api.OK}, {most, 333333, 999999, 333333333333, api.OK},
		{most, 666666, 999999, 666666666667, api.OK}, {2, most, 2, most, api.OK}, {-2, most, 2, -most, api.OK},
		// The exact products differ from the greatest amount by a half or a third.
		{3833, 521784503, 2, most, api.OK}, {-3833, 521784503, 2, -most, api.OK}, {3, 666666666667, 2, 0, api.ErrRange},
		{-3, 666666666667, 2, 0, api.ErrRange}, {67, 44776119403, 3, most, api.OK}, {51563, 58181254, 3, 0, api.ErrRange},
		{most, 2, 1, 0, api.ErrRange}, {-most, 2, 1, 0, api.ErrRange}, {2, most, 1, 0, api.ErrRange}, {most, most, 1, 0, api.ErrRange},
		{-most, most, 1, 0, api.ErrRange}, {most, most, 1000000, 0, api.ErrRange}, {most, 1000000, 999999, 0, api.ErrRange},
		{3, most, 2, 0, api.ErrRange}, {-3, most, 2, 0, api.ErrRange}, {most, 18446744073, 1, 0, api.ErrRange}, {most, 9223373, 1, 0, api.ErrRange},
		// The products wrap around to 0.
		{1 << 39, 1 << 25, 1, 0, api.ErrRange}, {-1 << 39, 1 << 25, 1, 0, api.ErrRange}, {1 << 39, 3 << 26, 2, 0, api.ErrRange},
		{-1 << 38, 7 << 28, 3, 0, api.ErrRange},
		{10, -1, 3, 0, api.ErrArg}, {0, -1, 3, 0, api.ErrArg}, {10, most + 1, 3, 0, api.ErrArg}, {10, 1, 0, 0, api.ErrArg}, {0, 0, 0, 0, api.ErrArg},
		{10, 1, -1, 0, api.ErrArg}, {10, 1, 1000001, 0, api.ErrArg}, {most + 1, 1, 2, 0, api.ErrArg}, {-most - 1, 1, 2, 0, api.ErrArg},
		{most + 1, most, 1, 0, api.ErrArg}, {most, most, 0, 0, api.ErrArg}, {most, most, 1000001, 0, api.ErrArg}, {math.MinInt, 0, 1, 0, api.ErrArg},
		{1, math.MaxInt, 1, 0, api.ErrArg}, {1, math.MinInt, -1, 0, api.ErrArg}, {1, 1, math.MinInt, 0, api.ErrArg}, {1, 1, math.MaxInt, 0, api.ErrArg},
	} {
		if n, e := money.Portion(c.n, c.num, c.den); n != c.want || e != c.e {
			t.Errorf("Portion(%d, %d, %d): %d, error %d, not %d, error %d", c.n, c.num, c.den, n, e, c.want, c.e)
		}
	}
}

// P4.1: portions and conversions compared with another implementation, many of them near the limits.
func TestProducts(t *testing.T) {
	r := rand.New(rand.NewSource(3))
	for range 50000 {
		n, num, den := randomAmount(r), max(randomAmount(r), 0), 1+r.Intn(1+r.Intn(1000000))
		if r.Intn(2) == 0 {
			// The result is near the greatest amount, if there is such a numerator.
			num = min(most/(1+max(n, -n))*den+r.Intn(den), most)
		}
		want, wantError := product(n, num, den)
		if got, e := money.Portion(n, num, den); got != want || e != wantError {
			t.Errorf("Portion(%d, %d, %d): %d, error %d, not %d, error %d", n, num, den, got, e, want, wantError)
		}
		rate := max(num, 1)
		want, wantError = product(n, rate, 1000000)
		if got, e := money.Convert(n, rate); got != want || e != wantError {
			t.Errorf("Convert(%d, %d): %d, error %d, not %d, error %d", n, rate, got, e, want, wantError)
		}
	}
}

// randomRate returns a rate that makes an amount of every one up to a limit.
func randomRate(r *rand.Rand, limit int) int {
	greatest := min(most, most/limit*1000000)
	return 1 + r.Intn(1+r.Intn(greatest))
}

// P4.3: the distance from the exact product is at most a half, and at a half the result is farther from zero.
func TestConvertIsNear(t *testing.T) {
	r := rand.New(rand.NewSource(4))
	for range 20000 {
		n := randomAmount(r)
		rate := randomRate(r, max(n, -n, 1))
		exact := big.NewRat(int64(n), 1)
		exact.Mul(exact, big.NewRat(int64(rate), 1000000))
		got := convert(t, n, rate)
		distance := new(big.Rat).Sub(big.NewRat(int64(got), 1), exact)
		order := distance.Abs(distance).Cmp(big.NewRat(1, 2))
		isFarther := big.NewRat(int64(max(got, -got)), 1).Cmp(exact.Abs(exact)) > 0
		if order > 0 || order == 0 && !isFarther {
			t.Errorf("Convert(%d, %d) is %d", n, rate, got)
		}
	}
}

// wantConverted checks what P4.3 says about two amounts, whose sum is one too, and a rate.
func wantConverted(t *testing.T, a, b, rate int) {
	t.Helper()
	convertedA, convertedB := convert(t, a, rate), convert(t, b, rate)
	if convert(t, -a, rate) != -convertedA {
		t.Errorf("Convert(%d, %d) is %d, but that of the negative amount is not its negative", a, rate, convertedA)
	}
	if a <= b && convertedA > convertedB || b <= a && convertedB > convertedA {
		t.Errorf("Convert(%d, %d) is %d, and Convert(%d, %d) is %d", a, rate, convertedA, b, rate, convertedB)
	}
	difference := convert(t, a+b, rate) - convertedA - convertedB
	if difference < -1 || difference > 1 {
		t.Errorf("Convert(%d + %d, %d) differs by %d", a, b, rate, difference)
	}
}

// P4.3: converting is odd and monotonic, and sums are kept up to 1.
func TestConvertOfSums(t *testing.T) {
	for a := -60; a <= 60; a++ {
		for b := -60; b <= 60; b++ {
			for _, rate := range []int{1, 99999, 100000, 100001, 333333, 500000, 999999, 1000001, 1050000, 2500000} {
				wantConverted(t, a, b, rate)
			}
		}
	}
	r := rand.New(rand.NewSource(5))
	for range 20000 {
		a, b := randomAmount(r)/2, randomAmount(r)/2
		rate := randomRate(r, 1+2*max(a, -a, b, -b))
		wantConverted(t, a, b, rate)
		wantConverted(t, a, a+1, rate)
	}
}

// P4.3: with the rate 10^6, an amount stays the same.
func TestConvertWithUnit(t *testing.T) {
	r := rand.New(rand.NewSource(6))
	amounts := []int{0, 1, -1, 999999, 1000000, -1000001, most, -most, most - 1}
	for range 5000 {
		amounts = append(amounts, randomAmount(r))
	}
	for _, n := range amounts {
		if convert(t, n, api.RateUnit) != n {
			t.Errorf("Convert(%d, 1000000) is %d", n, convert(t, n, api.RateUnit))
		}
	}
}

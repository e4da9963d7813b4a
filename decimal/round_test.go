package decimal_test

import (
	"math"
	"math/big"
	"math/rand"
	"testing"

	"tallystone/api"
	"tallystone/decimal"
)

const maxTerm = 1000000000000000000

// round returns a quotient, rounded, for arguments that a test knows to be right.
func round(t *testing.T, num, den, mode int) int {
	t.Helper()
	n, e := decimal.Round(num, den, mode)
	if e != api.OK {
		t.Fatalf("Round(%d, %d, %d): error %d", num, den, mode, e)
	}
	return n
}

// rescale returns a number with another scale, for arguments that a test knows to be right.
func rescale(t *testing.T, n, from, to, mode int) int {
	t.Helper()
	rescaled, e := decimal.Rescale(n, from, to, mode)
	if e != api.OK {
		t.Fatalf("Rescale(%d, %d, %d, %d): error %d", n, from, to, mode, e)
	}
	return rescaled
}

// roundedBy returns a number, rounded as another implementation does it: from the distances to both integers next to it.
func roundedBy(x *big.Rat, mode int) *big.Int {
	floor := new(big.Int).Div(x.Num(), x.Denom())
	if x.IsInt() {
		return floor
	}
	ceiling := new(big.Int).Add(floor, big.NewInt(1))
	toZero, fromZero, even := floor, ceiling, floor
	if x.Sign() < 0 {
		toZero, fromZero = ceiling, floor
	}
	if floor.Bit(0) == 1 {
		even = ceiling
	}
	below := new(big.Rat).Sub(x, new(big.Rat).SetInt(floor)).Cmp(big.NewRat(1, 2))
	nearest := map[int]*big.Int{-1: floor, 1: ceiling}
	switch mode {
	case decimal.HalfAway:
		nearest[0] = fromZero
		return nearest[below]
	case decimal.HalfEven:
		nearest[0] = even
		return nearest[below]
	}
	return map[int]*big.Int{decimal.Down: toZero, decimal.Up: fromZero, decimal.Floor: floor, decimal.Ceiling: ceiling}[mode]
}

// P3.1: every mode, around halves, around integers, for both signs of both terms, and at the limits.
func TestRound(t *testing.T) {
	const most = maxTerm
	for _, c := range []struct {
		num, den int
		want     [6]int
	}{
		{5, 2, [6]int{3, 2, 2, 3, 2, 3}}, {-5, 2, [6]int{-3, -2, -2, -3, -3, -2}}, {5, -2, [6]int{-3, -2, -2, -3, -3, -2}},
		{-5, -2, [6]int{3, 2, 2, 3, 2, 3}}, {7, 2, [6]int{4, 4, 3, 4, 3, 4}}, {-7, 2, [6]int{-4, -4, -3, -4, -4, -3}},
		{1, 2, [6]int{1, 0, 0, 1, 0, 1}}, {-1, 2, [6]int{-1, 0, 0, -1, -1, 0}}, {3, 2, [6]int{2, 2, 1, 2, 1, 2}},
		{-3, 2, [6]int{-2, -2, -1, -2, -2, -1}}, {1, 3, [6]int{0, 0, 0, 1, 0, 1}}, {-1, 3, [6]int{0, 0, 0, -1, -1, 0}},
		{2, 3, [6]int{1, 1, 0, 1, 0, 1}}, {2, -3, [6]int{-1, -1, 0, -1, -1, 0}}, {250, 100, [6]int{3, 2, 2, 3, 2, 3}},
		{249, 100, [6]int{2, 2, 2, 3, 2, 3}}, {251, 100, [6]int{3, 3, 2, 3, 2, 3}}, {-251, 100, [6]int{-3, -3, -2, -3, -3, -2}},
		{0, 7, [6]int{}}, {0, -7, [6]int{}}, {6, 3, [6]int{2, 2, 2, 2, 2, 2}}, {-6, 3, [6]int{-2, -2, -2, -2, -2, -2}},
		{6, -3, [6]int{-2, -2, -2, -2, -2, -2}}, {9, 1, [6]int{9, 9, 9, 9, 9, 9}}, {9, -1, [6]int{-9, -9, -9, -9, -9, -9}},
		{most, 1, [6]int{most, most, most, most, most, most}}, {-most, most, [6]int{-1, -1, -1, -1, -1, -1}},
		{1, most, [6]int{0, 0, 0, 1, 0, 1}}, {1, -most, [6]int{0, 0, 0, -1, -1, 0}}, {most - 1, most, [6]int{1, 1, 0, 1, 0, 1}},
		{most / 2, most, [6]int{1, 0, 0, 1, 0, 1}}, {most/2 - 1, most, [6]int{0, 0, 0, 1, 0, 1}},
		{most/2 + 1, most, [6]int{1, 1, 0, 1, 0, 1}}, {most / 2, -most, [6]int{-1, 0, 0, -1, -1, 0}},
		{most / 2, most - 1, [6]int{1, 1, 0, 1, 0, 1}}, {most/2 - 1, most - 1, [6]int{0, 0, 0, 1, 0, 1}},
		{most - 1, 2, [6]int{most / 2, most / 2, most/2 - 1, most / 2, most/2 - 1, most / 2}},
	} {
		for mode, want := range c.want {
			if n, e := decimal.Round(c.num, c.den, mode); n != want || e != api.OK {
				t.Errorf("Round(%d, %d, %d): %d, error %d, not %d", c.num, c.den, mode, n, e, want)
			}
		}
	}
}

// P3.1: errors, in the order of the chapter.
func TestRoundOfInvalidArguments(t *testing.T) {
	for _, c := range []struct {
		num, den, mode int
		want           api.Errno
	}{
		{1, 1, 6, api.ErrArg}, {1, 1, -1, api.ErrArg}, {1, 1, math.MaxInt, api.ErrArg}, {1, 1, math.MinInt, api.ErrArg},
		{1, 0, 6, api.ErrArg}, {maxTerm + 1, 1, 6, api.ErrArg}, {maxTerm + 1, 0, -1, api.ErrArg},
		{maxTerm + 1, 1, 0, api.ErrRange}, {-maxTerm - 1, 1, 1, api.ErrRange}, {1, maxTerm + 1, 2, api.ErrRange},
		{1, -maxTerm - 1, 3, api.ErrRange}, {math.MinInt, 1, 4, api.ErrRange}, {1, math.MinInt, 5, api.ErrRange},
		{math.MaxInt, math.MaxInt, 0, api.ErrRange}, {math.MinInt, -1, 0, api.ErrRange}, {maxTerm + 1, 0, 0, api.ErrRange},
		{math.MinInt, 0, 2, api.ErrRange}, {1, 0, 0, api.ErrDivide}, {0, 0, 5, api.ErrDivide}, {-maxTerm, 0, 3, api.ErrDivide},
	} {
		if n, e := decimal.Round(c.num, c.den, c.mode); n != 0 || e != c.want {
			t.Errorf("Round(%d, %d, %d): %d, error %d, not %d", c.num, c.den, c.mode, n, e, c.want)
		}
	}
}

// P3.1: small quotients, and quotients of long terms, compared with another implementation.
func TestRoundOfMany(t *testing.T) {
	wantRounded := func(num, den int) {
		for mode := range 6 {
			want := roundedBy(big.NewRat(int64(num), int64(den)), mode)
			if n, e := decimal.Round(num, den, mode); int64(n) != want.Int64() || e != api.OK {
				t.Errorf("Round(%d, %d, %d): %d, error %d, not %d", num, den, mode, n, e, want)
			}
		}
	}
	for num := -40; num <= 40; num++ {
		for den := 1; den <= 20; den++ {
			wantRounded(num, den)
			wantRounded(num, -den)
		}
	}
	r := rand.New(rand.NewSource(3))
	for range 3000 {
		num, den := r.Intn(2*maxTerm+1)-maxTerm, 1+r.Intn(maxTerm)
		wantRounded(num, den)
		wantRounded(num, 1+r.Intn(10))
		wantRounded(maxTerm-r.Intn(100), -den)
		wantRounded(den, 2*(den/2))
	}
}

// wantModes checks what P3.3 says about a quotient whose denominator is positive.
func wantModes(t *testing.T, num, den int) {
	t.Helper()
	var n, negated [6]int
	for mode := range n {
		n[mode], negated[mode] = round(t, num, den, mode), round(t, -num, den, mode)
	}
	floor, ceiling := n[decimal.Floor], n[decimal.Ceiling]
	if ceiling < floor || ceiling > floor+1 {
		t.Errorf("%d / %d: from %d to %d", num, den, floor, ceiling)
	}
	for mode := range n {
		if n[mode] != floor && n[mode] != ceiling {
			t.Errorf("%d / %d, mode %d: %d, not %d or %d", num, den, mode, n[mode], floor, ceiling)
		}
	}
	for _, mode := range []int{decimal.HalfAway, decimal.HalfEven} {
		if distance := 2 * (num - n[mode]*den); distance < -den || distance > den {
			t.Errorf("%d / %d, mode %d: %d", num, den, mode, n[mode])
		}
	}
	if isHalf := 2*(num-floor*den) == den; n[decimal.HalfAway] != n[decimal.HalfEven] && !isHalf {
		t.Errorf("%d / %d: %d and %d", num, den, n[decimal.HalfAway], n[decimal.HalfEven])
	}
	want := [6]int{-n[0], -n[1], -n[2], -n[3], -ceiling, -floor}
	if negated != want {
		t.Errorf("%d / %d: %d, not %d", -num, den, negated, want)
	}
}

// P3.3
func TestModes(t *testing.T) {
	for num := -60; num <= 60; num++ {
		for den := 1; den <= 15; den++ {
			wantModes(t, num, den)
		}
	}
	r := rand.New(rand.NewSource(4))
	for range 5000 {
		wantModes(t, r.Intn(2*maxTerm+1)-maxTerm, 1+r.Intn(maxTerm))
		wantModes(t, randomNumber(r), 1+r.Intn(100))
	}
}

// P3.4
func TestOrder(t *testing.T) {
	r := rand.New(rand.NewSource(5))
	for mode := range 6 {
		for den := 1; den <= 12; den++ {
			for num := -50; num < 50; num++ {
				if round(t, num, den, mode) > round(t, num+1, den, mode) || round(t, num, -den, mode) < round(t, num+1, -den, mode) {
					t.Errorf("mode %d reverses %d / %d and %d / %d", mode, num, den, num+1, den)
				}
			}
		}
		for range 2000 {
			a, den := r.Intn(maxTerm+1), 1+r.Intn(1000000)
			b := a - r.Intn(2*den)
			if round(t, a, den, mode) < round(t, b, den, mode) || round(t, -a, den, mode) > round(t, -b, den, mode) {
				t.Errorf("mode %d reverses %d / %d and %d / %d", mode, a, den, b, den)
			}
		}
	}
}

// P3.1: less and greater scales, limits of results, and errors in the order of the chapter.
func TestRescale(t *testing.T) {
	const most = decimal.MaxNumber
	for _, c := range []struct {
		n, from, to, mode, want int
		e                       api.Errno
	}{
		{1250, 3, 1, decimal.HalfEven, 12, api.OK}, {1250, 3, 1, decimal.HalfAway, 13, api.OK}, {-1250, 3, 1, decimal.HalfAway, -13, api.OK},
		{-1251, 3, 1, decimal.Down, -12, api.OK}, {-1251, 3, 1, decimal.Up, -13, api.OK}, {-1251, 3, 1, decimal.Floor, -13, api.OK},
		{-1251, 3, 1, decimal.Ceiling, -12, api.OK}, {1251, 3, 1, decimal.Ceiling, 13, api.OK}, {-7, 0, 3, decimal.Down, -7000, api.OK},
		{7, 2, 2, decimal.Up, 7, api.OK}, {0, 0, 9, decimal.Up, 0, api.OK}, {0, 9, 0, decimal.Up, 0, api.OK}, {1, 9, 0, decimal.Up, 1, api.OK},
		{most, 9, 0, decimal.HalfAway, 1000000, api.OK}, {-most, 9, 0, decimal.Floor, -1000000, api.OK},
		{most - 1, 9, 0, decimal.Ceiling, 1000000, api.OK}, {most, 0, 0, decimal.Floor, most, api.OK}, {-most, 9, 9, decimal.Floor, -most, api.OK},
		{most / 10, 0, 1, decimal.Down, most, api.OK}, {-most / 10, 0, 1, decimal.Down, -most, api.OK}, {1000000, 0, 9, decimal.Up, most, api.OK},
		{most/10 + 1, 0, 1, decimal.Down, 0, api.ErrRange}, {-most/10 - 1, 8, 9, decimal.Up, 0, api.ErrRange},
		{1000001, 0, 9, decimal.HalfEven, 0, api.ErrRange}, {-1000001, 0, 9, decimal.Floor, 0, api.ErrRange},
		// The products would be 0 or small in 64 bits.
		{18446744074, 0, 9, decimal.Down, 0, api.ErrRange}, {1 << 49, 0, 9, decimal.Down, 0, api.ErrRange}, {most, 0, 9, decimal.Down, 0, api.ErrRange},
		{-most, 0, 9, decimal.Down, 0, api.ErrRange}, {most + 1, 3, 1, decimal.Down, 0, api.ErrRange}, {-most - 1, 0, 0, decimal.Up, 0, api.ErrRange},
		{1, -1, 0, decimal.Up, 0, api.ErrRange}, {1, 10, 9, decimal.Up, 0, api.ErrRange}, {0, math.MinInt, 9, decimal.Up, 0, api.ErrRange},
		{math.MinInt, 0, 0, decimal.Up, 0, api.ErrRange}, {math.MaxInt, 9, 0, decimal.Up, 0, api.ErrRange}, {0, math.MaxInt, 0, 0, 0, api.ErrRange},
		// What is no mode, or no scale of a result, is named first.
		{1, 0, 0, 6, 0, api.ErrArg}, {1, 0, 0, -1, 0, api.ErrArg}, {1, 0, 10, decimal.Up, 0, api.ErrArg}, {1, 0, -1, decimal.Up, 0, api.ErrArg},
		{most + 1, 0, 0, 6, 0, api.ErrArg}, {most + 1, 0, 10, 0, 0, api.ErrArg}, {1, -1, 10, 0, 0, api.ErrArg}, {1, 10, 0, -1, 0, api.ErrArg},
		{1, 0, math.MaxInt, decimal.Up, 0, api.ErrArg}, {1, 0, math.MinInt, decimal.Up, 0, api.ErrArg},
	} {
		if n, e := decimal.Rescale(c.n, c.from, c.to, c.mode); n != c.want || e != c.e {
			t.Errorf("Rescale(%d, %d, %d, %d): %d, error %d, not %d, error %d", c.n, c.from, c.to, c.mode, n, e, c.want, c.e)
		}
	}
}

// P3.1: Rescale compared with another implementation.
func TestRescaleOfMany(t *testing.T) {
	r := rand.New(rand.NewSource(6))
	for range 30000 {
		n, from, to, mode := randomNumber(r), r.Intn(10), r.Intn(10), r.Intn(6)
		want, e := 0, api.ErrRange
		rounded := roundedBy(new(big.Rat).Quo(valueOf(n, from), valueOf(1, to)), mode)
		if rounded.CmpAbs(big.NewInt(decimal.MaxNumber)) <= 0 {
			want, e = int(rounded.Int64()), api.OK
		}
		if got, f := decimal.Rescale(n, from, to, mode); got != want || f != e {
			t.Errorf("Rescale(%d, %d, %d, %d): %d, error %d, not %d, error %d", n, from, to, mode, got, f, want, e)
		}
	}
}

// P3.1: multiples below, at and above the number, limits, and errors in the order of the chapter.
func TestQuantize(t *testing.T) {
	const most = decimal.MaxNumber
	for _, c := range []struct {
		n, step, mode, want int
		e                   api.Errno
	}{
		{1237, 5, decimal.HalfAway, 1235, api.OK}, {1238, 5, decimal.HalfAway, 1240, api.OK}, {-1238, 5, decimal.Floor, -1240, api.OK},
		{-1238, 5, decimal.Ceiling, -1235, api.OK}, {-1238, 5, decimal.Down, -1235, api.OK}, {-1238, 5, decimal.Up, -1240, api.OK},
		{1235, 10, decimal.HalfAway, 1240, api.OK}, {1225, 10, decimal.HalfEven, 1220, api.OK}, {-1225, 10, decimal.HalfAway, -1230, api.OK},
		{0, 7, decimal.Up, 0, api.OK}, {1, 7, decimal.Up, 7, api.OK}, {-1, 7, decimal.Up, -7, api.OK}, {14, 7, decimal.Ceiling, 14, api.OK},
		{-13, 1, decimal.Ceiling, -13, api.OK}, {most, most, decimal.Up, most, api.OK}, {-most, 1, decimal.Floor, -most, api.OK},
		{1, most, decimal.Ceiling, most, api.OK}, {1, most, decimal.Floor, 0, api.OK}, {most / 2, most, decimal.HalfAway, most, api.OK},
		{most / 2, most, decimal.HalfEven, 0, api.OK},
		// Results beyond the limit are results.
		{most, most - 1, decimal.Up, 2*most - 2, api.OK}, {-most, most - 1, decimal.Floor, -2*most + 2, api.OK}, {most, 7, decimal.Up, most + 1, api.OK},
		{most + 1, 1, decimal.Up, 0, api.ErrRange}, {-most - 1, 1, decimal.Up, 0, api.ErrRange}, {1, most + 1, decimal.Up, 0, api.ErrRange},
		{1, 0, decimal.Down, 0, api.ErrRange}, {1, -1, decimal.Down, 0, api.ErrRange}, {1, -most - 1, decimal.Down, 0, api.ErrRange},
		{0, 0, decimal.Down, 0, api.ErrRange}, {math.MinInt, 1, decimal.Up, 0, api.ErrRange}, {1, math.MinInt, decimal.Up, 0, api.ErrRange},
		{math.MaxInt, math.MaxInt, decimal.Up, 0, api.ErrRange}, {math.MinInt, -1, decimal.HalfEven, 0, api.ErrRange},
		// What is no mode is named first.
		{1, 1, 6, 0, api.ErrArg}, {1, 1, -1, 0, api.ErrArg}, {1, 0, 6, 0, api.ErrArg}, {most + 1, 1, -1, 0, api.ErrArg},
		{1, 1, math.MaxInt, 0, api.ErrArg}, {1, 1, math.MinInt, 0, api.ErrArg},
	} {
		if n, e := decimal.Quantize(c.n, c.step, c.mode); n != c.want || e != c.e {
			t.Errorf("Quantize(%d, %d, %d): %d, error %d, not %d, error %d", c.n, c.step, c.mode, n, e, c.want, c.e)
		}
	}
}

// P3.1: Quantize compared with another implementation.
func TestQuantizeOfMany(t *testing.T) {
	r := rand.New(rand.NewSource(7))
	for range 20000 {
		n, step, mode := randomNumber(r), 1+r.Intn(20), r.Intn(6)
		if r.Intn(2) == 0 {
			step = max(1, randomNumber(r))
		}
		want := int(roundedBy(big.NewRat(int64(n), int64(step)), mode).Int64()) * step
		if got, e := decimal.Quantize(n, step, mode); got != want || e != api.OK {
			t.Errorf("Quantize(%d, %d, %d): %d, error %d, not %d", n, step, mode, got, e, want)
		}
	}
}

// P3.5: a number with a greater scale stands for the same value, and rescaling it back returns it, in every mode.
func TestGreaterScales(t *testing.T) {
	r := rand.New(rand.NewSource(8))
	for range 10000 {
		n, from := r.Intn(2000001)-1000000, r.Intn(10)
		to, mode := from+r.Intn(10-from), r.Intn(6)
		greater := rescale(t, n, from, to, mode)
		if order, e := decimal.Compare(n, from, greater, to); order != 0 || e != api.OK {
			t.Errorf("Rescale(%d, %d, %d, %d): %d stands for another value", n, from, to, mode, greater)
		}
		if back := rescale(t, greater, to, from, mode); back != n {
			t.Errorf("Rescale(%d, %d, %d, %d): %d, not %d", greater, to, from, mode, back, n)
		}
	}
}

// P3.5: the sum of k rescaled numbers differs from the rescaled sum by at most (k + 1) / 2.
func TestSumsOfRescaledNumbers(t *testing.T) {
	r := rand.New(rand.NewSource(9))
	differences := 0
	for range 10000 {
		from, k, mode := 1+r.Intn(9), 1+r.Intn(30), r.Intn(2)
		to := r.Intn(from)
		sum, rescaled := 0, 0
		for range k {
			n := r.Intn(2000001) - 1000000
			sum += n
			rescaled += rescale(t, n, from, to, mode)
		}
		difference := rescaled - rescale(t, sum, from, to, mode)
		if 2*difference > k+1 || 2*difference < -k-1 {
			t.Errorf("%d numbers, from scale %d to %d, mode %d: %d", k, from, to, mode, difference)
		}
		if difference != 0 {
			differences++
		}
	}
	if differences == 0 {
		t.Error("no rescaled sum differs from the sum of the rescaled numbers")
	}
}

// P3.5: numbers that are all halves, where the bound is reached.
func TestSumsOfHalves(t *testing.T) {
	for k := 1; k <= 50; k++ {
		away := k*rescale(t, 5, 1, 0, decimal.HalfAway) - rescale(t, 5*k, 1, 0, decimal.HalfAway)
		even := k*rescale(t, 5, 1, 0, decimal.HalfEven) - rescale(t, 5*k, 1, 0, decimal.HalfEven)
		if away < 0 || 2*away > k+1 || even > 0 || -2*even > k+1 {
			t.Errorf("%d halves: %d and %d", k, away, even)
		}
	}
}

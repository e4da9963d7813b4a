package carry

import (
	"math/big"
	"math/rand"
	"testing"

	"tallystone/api"
)

// P15.1: sums of so many amounts that they are no int, and such that come back from there.
func TestSumsBeyondIntegers(t *testing.T) {
	// This many times the greatest amount is 2^64 but for less than an amount, so that an int would wrap around to near 0.
	const many = 18446744
	var s sum
	for range many {
		s = s.plus(api.MaxAmount)
	}
	if n, e := s.amount(); n != 0 || e != api.ErrRange {
		t.Errorf("%d, error %d", n, e)
	}
	for range many {
		s = s.plus(-api.MaxAmount)
	}
	if n, e := s.plus(-7).amount(); n != -7 || e != api.OK {
		t.Errorf("%d, error %d", n, e)
	}
}

// P15.1: sums of amounts of chance, compared with another implementation.
func TestSums(t *testing.T) {
	r := rand.New(rand.NewSource(1))
	limit := big.NewInt(api.MaxAmount)
	inRange := 0
	for range 2000 {
		var s sum
		exact := new(big.Int)
		for range 40 {
			amount := []int{r.Intn(2*api.MaxAmount+1) - api.MaxAmount, api.MaxAmount - r.Intn(3), r.Intn(3) - api.MaxAmount, r.Intn(3) - 1}[r.Intn(4)]
			s = s.plus(amount)
			exact.Add(exact, big.NewInt(int64(amount)))
			n, e := s.amount()
			fits := exact.CmpAbs(limit) <= 0
			if fits != (e == api.OK) || fits && int64(n) != exact.Int64() || !fits && (n != 0 || e != api.ErrRange) {
				t.Errorf("%d, error %d, not %s", n, e, exact)
			}
			if fits {
				inRange++
			}
		}
	}
	if inRange < 10000 {
		t.Errorf("only %d sums are amounts", inRange)
	}
}

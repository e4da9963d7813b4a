package mapping

import (
	"math/big"
	"math/rand"
	"testing"

	"tallystone/api"
)

// P9.4: sums of so many amounts that they are no int, and such that come back from there.
func TestSumsBeyondIntegers(t *testing.T) {
	// This many times the greatest amount is 2^64 but for less than an amount, so that an int would wrap around to near 0.
	const many = 18446744
	var s sum
	for range many {
		s = s.plus(api.MaxAmount)
	}
	if n, ok := s.amount(); n != 0 || ok {
		t.Errorf("%d, %t", n, ok)
	}
	for range many {
		s = s.plus(-api.MaxAmount)
	}
	if n, ok := s.plus(-7).amount(); n != -7 || !ok {
		t.Errorf("%d, %t", n, ok)
	}
}

// P9.4: sums of amounts of chance, compared with another implementation.
func TestSums(t *testing.T) {
	r := rand.New(rand.NewSource(1))
	limit := big.NewInt(api.MaxAmount)
	inRange := 0
	for range 2000 {
		var s sum
		exact := new(big.Int)
		for range 40 {
			amount := r.Intn(2*api.MaxAmount+1) - api.MaxAmount
			switch r.Intn(6) {
			case 0:
				amount = api.MaxAmount - r.Intn(3)
			case 1:
				amount = r.Intn(3) - api.MaxAmount
			case 2:
				amount = r.Intn(3) - 1
			}
			s = s.plus(amount)
			exact.Add(exact, big.NewInt(int64(amount)))
			n, ok := s.amount()
			if ok != (exact.CmpAbs(limit) <= 0) || ok && int64(n) != exact.Int64() || !ok && n != 0 {
				t.Errorf("%d, %t, not %s", n, ok, exact)
			}
			if ok {
				inRange++
			}
		}
	}
	if inRange < 10000 {
		t.Errorf("only %d sums are amounts", inRange)
	}
}

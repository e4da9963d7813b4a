package carry

import (
	"maps"
	"slices"

	"tallystone/api"
)

// sum is a sum of amounts: so many times the greatest amount, and a rest that is less. A list may be so long that the sum of
// its amounts is no int.
type sum struct {
	greatest, rest int
}

func (s sum) plus(amount int) sum {
	rest := s.rest + amount
	return sum{s.greatest + rest/api.MaxAmount, rest % api.MaxAmount}
}

// amount returns a sum as an integer, which has to be an amount.
func (s sum) amount() (int, api.Errno) {
	if s.greatest < -1 || s.greatest > 1 {
		return 0, api.ErrRange
	}
	n := s.greatest*api.MaxAmount + s.rest
	if !isAmount(n) {
		return 0, api.ErrRange
	}
	return n, api.OK
}

func isAmount(n int) bool {
	return -api.MaxAmount <= n && n <= api.MaxAmount
}

// balances returns the sums that are not 0, in the order of their accounts.
func balances(sums map[int]sum) ([]api.Balance, api.Errno) {
	var l []api.Balance
	for _, account := range slices.Sorted(maps.Keys(sums)) {
		n, e := sums[account].amount()
		if e != api.OK {
			return nil, e
		}
		if n != 0 {
			l = append(l, api.Balance{Account: account, Amount: n})
		}
	}
	return l, api.OK
}

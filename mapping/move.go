package mapping

import (
	"maps"
	"slices"

	"tallystone/api"
)

// Move returns the balances on the accounts of the group.
func Move(e api.Entity, balances []api.Balance, day int) ([]api.Balance, api.Errno) {
	if !areBalances(balances) {
		return nil, api.ErrArg
	}
	parts, sums := partsOf(e), map[int]sum{}
	for _, b := range balances {
		to, err := At(parts[b.Account], b.Account, day)
		if err != api.OK {
			return nil, err
		}
		sums[to] = sums[to].plus(b.Amount)
	}
	return listed(sums)
}

// areBalances reports whether the accounts of balances are strictly increasing, and their amounts are in range.
func areBalances(balances []api.Balance) bool {
	for i, b := range balances {
		if i > 0 && b.Account <= balances[i-1].Account || !isAmount(b.Amount) {
			return false
		}
	}
	return true
}

// partsOf returns, for each code, an entity with nothing but the accounts and the links of this code. At has the same result
// for it, but does not go through all links again for each balance.
func partsOf(e api.Entity) map[int]api.Entity {
	parts := map[int]api.Entity{}
	for _, a := range e.Chart {
		part := parts[a.Code]
		part.Chart = append(part.Chart, a)
		parts[a.Code] = part
	}
	for _, l := range e.Links {
		part := parts[l.From]
		part.Links = append(part.Links, l)
		parts[l.From] = part
	}
	return parts
}

// listed returns the sums that are not 0 as balances.
func listed(sums map[int]sum) ([]api.Balance, api.Errno) {
	var balances []api.Balance
	for _, account := range slices.Sorted(maps.Keys(sums)) {
		amount, ok := sums[account].amount()
		if !ok {
			return nil, api.ErrRange
		}
		if amount != 0 {
			balances = append(balances, api.Balance{Account: account, Amount: amount})
		}
	}
	return balances, api.OK
}

// sum is a sum of amounts: so many times the greatest amount, and a rest that is less. The chart of an entity that is not
// valid may have so many accounts that the sum of their amounts is no int.
type sum struct {
	greatest, rest int
}

func (s sum) plus(amount int) sum {
	rest := s.rest + amount
	return sum{s.greatest + rest/api.MaxAmount, rest % api.MaxAmount}
}

// amount returns a sum as an integer, and whether it is an amount.
func (s sum) amount() (int, bool) {
	if s.greatest < -1 || s.greatest > 1 {
		return 0, false
	}
	n := s.greatest*api.MaxAmount + s.rest
	if !isAmount(n) {
		return 0, false
	}
	return n, true
}

func isAmount(n int) bool {
	return -api.MaxAmount <= n && n <= api.MaxAmount
}

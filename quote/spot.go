package quote

import (
	"cmp"
	"iter"
	"slices"

	"tallystone/api"
)

// latest keeps the latest one of the rates that it is given.
type latest struct {
	rate  api.Rate
	found bool
}

func (l *latest) add(r api.Rate) {
	if !l.found || r.When > l.rate.When {
		*l = latest{r, true}
	}
}

// spotAt returns the rate from which the spot rate of a currency at a day comes, for arguments that are known to be valid.
func spotAt(g api.Group, rates []api.Rate, currency string, day int) (api.Rate, api.Errno) {
	if currency == g.Currency {
		return api.Rate{Currency: currency, Kind: api.RateSpot, When: day, Value: api.RateUnit}, api.OK
	}
	var l latest
	for r := range spots(rates, currency, day-MaxAge, day) {
		l.add(r)
	}
	if !l.found {
		return api.Rate{}, api.ErrRate
	}
	return l.rate, api.OK
}

// spots yields the spot rates of a currency from one day to another one, in the order of the list.
func spots(rates []api.Rate, currency string, first, last int) iter.Seq[api.Rate] {
	return func(yield func(api.Rate) bool) {
		for _, r := range rates {
			if isSpot(r, currency) && first <= r.When && r.When <= last && !yield(r) {
				return
			}
		}
	}
}

func isSpot(r api.Rate, currency string) bool {
	return r.Currency == currency && r.Kind == api.RateSpot
}

// inOrder returns rates in the order of their days.
func inOrder(rates iter.Seq[api.Rate]) []api.Rate {
	return slices.SortedFunc(rates, func(a, b api.Rate) int { return cmp.Compare(a.When, b.When) })
}

// mean returns the mean of the values of rates, of which there is at least one. No value is negative, so that cutting off the
// fraction of the mean and a half rounds it to the nearest integer, half upward.
func mean(rates []api.Rate) int {
	sum := 0
	for _, r := range rates {
		sum += r.Value
	}
	n := len(rates)
	return (2*sum + n) / (2 * n)
}

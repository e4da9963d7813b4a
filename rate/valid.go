package rate

import (
	"cmp"

	"tallystone/api"
	"tallystone/date"
)

// key is what tells which of two rates corrects the other one.
type key struct {
	currency   string
	kind, when int
}

func keyOf(r api.Rate) key {
	return key{r.Currency, r.Kind, r.When}
}

// compare puts keys into the order of currencies; spot rates come before average ones, as the numbers of their kinds do.
func (k key) compare(other key) int {
	return cmp.Or(cmp.Compare(k.currency, other.currency), cmp.Compare(k.kind, other.kind), cmp.Compare(k.when, other.when))
}

// Currency reports whether a string is a currency.
func Currency(s string) bool {
	if len(s) != 3 {
		return false
	}
	for i := range len(s) {
		if s[i] < 'A' || s[i] > 'Z' {
			return false
		}
	}
	return true
}

// Valid reports whether a list of rates is valid for a group currency.
func Valid(group string, l []api.Rate) bool {
	if !Currency(group) || len(l) > api.MaxRates {
		return false
	}
	seen := make(map[key]bool, len(l))
	for _, r := range l {
		if seen[keyOf(r)] || !isValid(group, r) {
			return false
		}
		seen[keyOf(r)] = true
	}
	return true
}

// Find returns the value of the first rate of a list with a key.
func Find(l []api.Rate, currency string, kind, when int) (int, bool) {
	wanted := key{currency, kind, when}
	for _, r := range l {
		if keyOf(r) == wanted {
			return r.Value, true
		}
	}
	return 0, false
}

// isValid reports whether a rate is valid for a group currency; none is for what is not a currency, such as that of a table
// that New did not make.
func isValid(group string, r api.Rate) bool {
	return Currency(group) && Currency(r.Currency) && r.Currency != group && isTime(r.Kind, r.When) && 1 <= r.Value && r.Value <= api.MaxRate
}

// isTime reports whether there may be a rate of a kind at or for a number.
func isTime(kind, when int) bool {
	switch kind {
	case api.RateSpot:
		return date.Valid(when)
	case api.RateAverage:
		return 0 <= when && when < api.MaxPeriods
	}
	return false
}

package rate

import (
	"maps"
	"slices"

	"tallystone/api"
)

// Get returns the value of the current rate with a key.
func (t *Table) Get(currency string, kind, when int) (int, bool) {
	if t == nil {
		return 0, false
	}
	value, ok := t.current[key{currency, kind, when}]
	return value, ok
}

// List returns the current rates in order.
func (t *Table) List() []api.Rate {
	if t == nil {
		return nil
	}
	list := make([]api.Rate, 0, len(t.current))
	for _, k := range slices.SortedFunc(maps.Keys(t.current), key.compare) {
		list = append(list, api.Rate{Currency: k.currency, Kind: k.kind, When: k.when, Value: t.current[k]})
	}
	return list
}

// History returns all rates that were set.
func (t *Table) History() []api.Rate {
	if t == nil {
		return nil
	}
	return slices.Clone(t.history)
}

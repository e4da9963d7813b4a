package chart

import (
	"cmp"
	"slices"

	"tallystone/api"
)

// isChart reports whether a list is valid as a chart of a group or of an entity.
func isChart(l []api.Account) bool {
	return Valid(l, false) || Valid(l, true)
}

// index returns the index of the account with a code, in a list whose codes are positive and increasing. There is none for
// the parent 0, so that a way from parent to parent ends with it.
func index(l []api.Account, code int) (int, bool) {
	return slices.BinarySearchFunc(l, code, func(a api.Account, code int) int { return cmp.Compare(a.Code, code) })
}

func haveCodes(l []api.Account) bool {
	last := 0
	for _, a := range l {
		if a.Code <= last {
			return false
		}
		last = a.Code
	}
	return last <= api.MaxCode
}

func haveKinds(l []api.Account, group bool) bool {
	lowest, highest := 0, 0
	if group {
		lowest, highest = api.BasisClosing, api.BasisHistorical
	}
	for _, a := range l {
		if a.Kind < api.KindAsset || a.Kind > api.KindExpense || a.Basis < lowest || a.Basis > highest {
			return false
		}
	}
	return true
}

func haveParents(l []api.Account) bool {
	for _, a := range l {
		if a.Parent == 0 {
			continue
		}
		if i, ok := index(l, a.Parent); !ok || l[i].Kind != a.Kind {
			return false
		}
	}
	return true
}

// haveTops reports whether the ways from all accounts, from parent to parent, come to an end. All parents are in the list.
func haveTops(l []api.Account) bool {
	// The codes seen so far, each with the account from which the first way to it started. An earlier way came to its end.
	seen := map[int]int{}
ways:
	for start, a := range l {
		for a.Parent != 0 {
			if first, ok := seen[a.Code]; ok {
				if first == start {
					return false
				}
				continue ways
			}
			seen[a.Code] = start
			i, _ := index(l, a.Parent)
			a = l[i]
		}
	}
	return true
}

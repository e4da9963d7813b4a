package chart_test

import (
	"math"
	"math/rand"
	"slices"
	"testing"

	"tallystone/api"
	"tallystone/chart"
)

// extremes returns integers at, next to and far beyond all limits of the layer, small ones, and some whose lowest bits are
// codes, kinds or bases.
func extremes() []int {
	l := []int{math.MinInt, math.MinInt + 1, math.MaxInt - 1, math.MaxInt, 0, 1<<32 + 1000, 1<<16 + 1000, 1<<8 + 1, 1<<32 + 1, -1 << 32, math.MinInt + 1000}
	for _, limit := range []int{1, 3, 5, 200, 1000, 99999, 1000000000000, 1 << 62} {
		l = append(l, limit-1, limit, limit+1, -limit-1, -limit, -limit+1)
	}
	return l
}

// sample returns a valid chart of an entity, in which parents stand before and behind their children.
func sample() []api.Account {
	return []api.Account{
		{Code: 1, Kind: api.KindLiability, Parent: 99999},
		{Code: 1000, Kind: api.KindAsset},
		{Code: 1100, Kind: api.KindAsset, Parent: 1000},
		{Code: 1110, Kind: api.KindAsset, Parent: 1100},
		{Code: 1120, Kind: api.KindAsset, Parent: 1100},
		{Code: 1200, Kind: api.KindAsset, Parent: 1000},
		{Code: 3000, Kind: api.KindEquity},
		{Code: 4000, Kind: api.KindIncome, Parent: 4100},
		{Code: 4100, Kind: api.KindIncome, Parent: 4900},
		{Code: 4200, Kind: api.KindIncome, Parent: 4900},
		{Code: 4900, Kind: api.KindIncome},
		{Code: 5000, Kind: api.KindExpense},
		{Code: 99999, Kind: api.KindLiability},
	}
}

// example returns the chart of the example of the chapter.
func example() []api.Account {
	return []api.Account{{Code: 1000, Kind: api.KindAsset}, {Code: 1100, Kind: api.KindAsset, Parent: 1000}, {Code: 4000, Kind: api.KindIncome}}
}

// withBases returns a chart of a group that is like one of an entity.
func withBases(l []api.Account) []api.Account {
	based := slices.Clone(l)
	for i := range based {
		based[i].Basis = 1 + i%3
	}
	return based
}

// chain returns a chart in which all accounts have one kind, and each one but the last has the one behind it as its parent,
// or each one but the first the one before it.
func chain(length int, upwards bool) []api.Account {
	l := make([]api.Account, length)
	for i := range l {
		l[i] = api.Account{Code: 10 * (i + 1), Kind: api.KindAsset}
		switch {
		case upwards && i < length-1:
			l[i].Parent = 10 * (i + 2)
		case !upwards && i > 0:
			l[i].Parent = 10 * i
		}
	}
	return l
}

// randomChart returns a valid chart of an entity.
func randomChart(r *rand.Rand, length int) []api.Account {
	l := make([]api.Account, length)
	code := 0
	for i := range l {
		code += 1 + r.Intn(1+r.Intn((99999-code-length+i)/(length-i)+1))
		l[i] = api.Account{Code: code, Kind: 1 + r.Intn(5)}
	}
	// An account may have each one before it, in an order of chance, as its parent.
	order := r.Perm(length)
	for k, i := range order {
		if k == 0 || r.Intn(4) == 0 {
			continue
		}
		parent := l[order[r.Intn(k)]]
		l[i].Parent, l[i].Kind = parent.Code, parent.Kind
	}
	return l
}

// isValid reports what the chapter says of a chart, word by word.
func isValid(l []api.Account, group bool) bool {
	if len(l) > 200 {
		return false
	}
	accounts := map[int]api.Account{}
	for i, a := range l {
		accounts[a.Code] = a
		hasBasis := a.Basis == 0
		if group {
			hasBasis = a.Basis == 1 || a.Basis == 2 || a.Basis == 3
		}
		if a.Code < 1 || a.Code > 99999 || i > 0 && a.Code <= l[i-1].Code || a.Kind < 1 || a.Kind > 5 || !hasBasis {
			return false
		}
	}
	for _, a := range l {
		if a.Parent == 0 {
			continue
		}
		if parent, ok := accounts[a.Parent]; !ok || parent.Kind != a.Kind || parent.Code == a.Code {
			return false
		}
		steps := 0
		for b := a; b.Parent != 0; b = accounts[b.Parent] {
			if steps++; steps > len(l) {
				return false
			}
		}
	}
	return true
}

// wantValid tests for which purposes a list is valid.
func wantValid(t *testing.T, name string, l []api.Account, entity, group bool) {
	t.Helper()
	if ok := chart.Valid(l, false); ok != entity {
		t.Errorf("%s: Valid for an entity is %t", name, ok)
	}
	if ok := chart.Valid(l, true); ok != group {
		t.Errorf("%s: Valid for a group is %t", name, ok)
	}
}

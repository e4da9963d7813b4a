package chart_test

import (
	"math"
	"math/rand"
	"slices"
	"testing"

	"tallystone/api"
	"tallystone/chart"
)

// P8.1: ordinary charts, those without accounts, and the same ones with bases.
func TestValid(t *testing.T) {
	wantValid(t, "the sample", sample(), true, false)
	wantValid(t, "the sample with bases", withBases(sample()), false, true)
	wantValid(t, "the example", example(), true, false)
	wantValid(t, "the example with bases", withBases(example()), false, true)
	wantValid(t, "nil", nil, true, true)
	wantValid(t, "no accounts", []api.Account{}, true, true)
	for kind := range 10 {
		l := []api.Account{{Code: 7, Kind: kind - 2}}
		valid := kind >= 3 && kind <= 7
		wantValid(t, "one account", l, valid, false)
		wantValid(t, "one account with a basis", withBases(l), false, valid)
	}
}

// P8.1: 200 accounts are allowed, and 201 are not, also if the first 200 of them are a chart.
func TestLength(t *testing.T) {
	for _, length := range []int{1, 2, 199, 200, 201, 202, 400, 5000} {
		for _, upwards := range []bool{true, false} {
			wantValid(t, "a chain", chain(length, upwards), length <= 200, false)
			wantValid(t, "a chain with bases", withBases(chain(length, upwards)), false, length <= 200)
		}
		flat := chain(length, true)
		for i := range flat {
			flat[i].Parent = 0
		}
		wantValid(t, "accounts without parents", flat, length <= 200, false)
	}
}

// P8.1: codes at the limits, beyond them, equal ones, and ones that decrease, at each position.
func TestCodes(t *testing.T) {
	flat := func(codes ...int) []api.Account {
		var l []api.Account
		for _, code := range codes {
			l = append(l, api.Account{Code: code, Kind: api.KindEquity})
		}
		return l
	}
	for _, x := range []struct {
		codes []int
		want  bool
	}{
		{[]int{1}, true}, {[]int{99999}, true}, {[]int{1, 99999}, true}, {[]int{1, 2, 3}, true}, {[]int{99997, 99998, 99999}, true},
		{[]int{0}, false}, {[]int{-1}, false}, {[]int{100000}, false}, {[]int{0, 1}, false}, {[]int{-1, 1}, false}, {[]int{-5, -4, -3}, false},
		{[]int{1, 100000}, false}, {[]int{99999, 100000}, false}, {[]int{1, 1}, false}, {[]int{2, 1}, false}, {[]int{1, 2, 2}, false},
		{[]int{1, 3, 2}, false}, {[]int{2, 1, 3}, false}, {[]int{1, 3, 2, 4}, false}, {[]int{1, 100000, 2}, false}, {[]int{1, 0}, false},
		{[]int{1, 2, 0}, false}, {[]int{1, 2, -3}, false}, {[]int{math.MaxInt}, false}, {[]int{math.MinInt}, false}, {[]int{math.MaxInt, 1}, false},
		{[]int{1, math.MaxInt}, false}, {[]int{math.MinInt, 1}, false}, {[]int{1<<32 + 7}, false}, {[]int{1, math.MinInt}, false},
	} {
		wantValid(t, "accounts with codes", flat(x.codes...), x.want, false)
		wantValid(t, "accounts with codes and bases", withBases(flat(x.codes...)), false, x.want)
	}
}

// P8.1: each basis that a list may have, and bases of one account only.
func TestBases(t *testing.T) {
	for _, basis := range append(extremes(), 2, 4) {
		all := sample()
		for i := range all {
			all[i].Basis = basis
			one := sample()
			one[i].Basis = basis
			wantValid(t, "one basis in a chart of an entity", one, basis == 0, false)
			one = withBases(sample())
			one[i].Basis = basis
			wantValid(t, "one basis in a chart of a group", one, false, basis >= 1 && basis <= 3)
		}
		wantValid(t, "one basis for all", all, basis == 0, basis >= 1 && basis <= 3)
	}
}

// P8.1: charts in which one field of one account, wherever it stands, is not allowed.
func TestChangedFields(t *testing.T) {
	for _, n := range extremes() {
		for i := range sample() {
			for field := range 3 {
				l := sample()
				switch field {
				case 0:
					l[i].Code = n
				case 1:
					l[i].Kind = n
				case 2:
					l[i].Parent = n
				}
				wantValid(t, "a changed sample", l, isValid(l, false), false)
				l = withBases(l)
				wantValid(t, "a changed sample with bases", l, false, isValid(l, true))
			}
		}
	}
}

// P8.1: parents that are no accounts, the account itself, of another kind, or reached again.
func TestParents(t *testing.T) {
	for name, change := range map[string]func(l []api.Account){
		"a parent that is no account":            func(l []api.Account) { l[3].Parent = 1105 },
		"a parent before all accounts":           func(l []api.Account) { l[3].Parent = -1 },
		"a parent behind all accounts":           func(l []api.Account) { l[3].Parent = 100000 },
		"an account that is its own parent":      func(l []api.Account) { l[5].Parent = 1200 },
		"the first one that is its own parent":   func(l []api.Account) { l[0].Parent = 1 },
		"the last one that is its own parent":    func(l []api.Account) { l[12].Parent = 99999 },
		"a parent of another kind":               func(l []api.Account) { l[5].Parent = 3000 },
		"another kind than its parent":           func(l []api.Account) { l[4].Kind = api.KindExpense },
		"another kind than its children":         func(l []api.Account) { l[10].Kind = api.KindExpense },
		"two accounts that are reached again":    func(l []api.Account) { l[12].Parent = 1 },
		"three accounts that are reached again":  func(l []api.Account) { l[1].Parent = 1110 },
		"the same from another beginning":        func(l []api.Account) { l[1].Parent = 1120 },
		"three that are reached again, upwards":  func(l []api.Account) { l[10].Parent = 4000 },
		"two, and others that lead to them":      func(l []api.Account) { l[10].Parent = 4100 },
		"some in the middle that are not a tree": func(l []api.Account) { l[2].Parent = 1120 },
	} {
		l := sample()
		change(l)
		if isValid(l, false) {
			t.Fatalf("%s: the test is wrong", name)
		}
		wantValid(t, name, l, false, false)
		wantValid(t, name, withBases(l), false, false)
	}
}

// P8.1: long circles, and long ways that lead to a circle or end beside it.
func TestCircles(t *testing.T) {
	for _, length := range []int{1, 2, 3, 10, 199, 200} {
		for _, upwards := range []bool{true, false} {
			for to := 0; to < length; to += 1 + length/7 {
				l := chain(length, upwards)
				top := 0
				if upwards {
					top = length - 1
				}
				l[top].Parent = l[to].Code
				wantValid(t, "a circle", l, false, false)
				l[top].Parent = 0
				wantValid(t, "no circle", l, true, false)
			}
		}
	}
}

// P8.1: all lists of four accounts with the codes 1 to 4 and small parents, also in another order of codes.
func TestAllSmallLists(t *testing.T) {
	for n := range 6 * 6 * 6 * 6 * 16 {
		l := make([]api.Account, 4)
		rest := n
		for i := range l {
			l[i] = api.Account{Code: i + 1, Kind: 1 + rest%2, Parent: rest / 2 % 6}
			rest /= 12
		}
		if n%5 == 0 {
			i := n / 5 % 3
			l[i], l[i+1] = l[i+1], l[i]
		}
		wantValid(t, "a small list", l, isValid(l, false), false)
	}
}

// P8.1: charts of chance are valid; some that were changed are valid exactly as another implementation says.
func TestRandomCharts(t *testing.T) {
	r := rand.New(rand.NewSource(1))
	valid := 0
	for n := range 3000 {
		l := randomChart(r, 1+r.Intn(1+n%200))
		wantValid(t, "a chart of chance", l, true, false)
		wantValid(t, "a chart of chance with bases", withBases(l), false, true)
		i, j := r.Intn(len(l)), r.Intn(len(l))
		switch r.Intn(5) {
		case 0:
			l[i].Parent = l[j].Code
		case 1:
			l[i].Kind = l[j].Kind
		case 2:
			l[i].Code = l[j].Code + r.Intn(3) - 1
		case 3:
			l[i].Parent = l[j].Parent
		case 4:
			l[i].Parent, l[i].Kind = l[j].Code, l[j].Kind
		}
		wantValid(t, "a changed chart of chance", l, isValid(l, false), false)
		wantValid(t, "a changed chart of chance with bases", withBases(l), false, isValid(withBases(l), true))
		if isValid(l, false) {
			valid++
		}
	}
	if valid < 300 || valid > 2700 {
		t.Errorf("%d changed charts are valid", valid)
	}
}

// P8.1: a chart stays valid without its accounts of one kind, and each chart of an entity becomes one of a group.
func TestPartsOfCharts(t *testing.T) {
	for kind := 1; kind <= 5; kind++ {
		l := slices.DeleteFunc(sample(), func(a api.Account) bool { return a.Kind == kind })
		if !chart.Valid(l, false) || chart.Valid(l, true) || !chart.Valid(withBases(l), true) {
			t.Errorf("the sample without the kind %d", kind)
		}
	}
}

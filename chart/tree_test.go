package chart_test

import (
	"math"
	"math/rand"
	"slices"
	"testing"

	"tallystone/api"
	"tallystone/chart"
)

// charts returns valid charts: those of the other tests, the longest ones, and charts of chance.
func charts() [][]api.Account {
	r := rand.New(rand.NewSource(2))
	l := [][]api.Account{sample(), withBases(sample()), example(), chain(200, true), chain(200, false), chain(1, true), nil}
	for n := range 60 {
		random := randomChart(r, 1+r.Intn(1+n))
		l = append(l, random, withBases(random))
	}
	return append(l, randomChart(r, 200))
}

// notCharts returns lists that are valid neither as the chart of a group nor as that of an entity.
func notCharts() map[string][]api.Account {
	mixed, circle, kinds, missing, itself := sample(), sample(), sample(), sample(), sample()
	mixed[3].Basis = api.BasisAverage
	circle[1].Parent = 1110
	kinds[2].Kind = api.KindEquity
	missing[3].Parent = 1111
	itself[6].Parent = 3000
	based := withBases(sample())
	based[12].Basis = 0
	swapped := sample()
	swapped[2], swapped[3] = swapped[3], swapped[2]
	return map[string][]api.Account{
		"a basis of one account": mixed, "no basis of one account": based, "a circle": circle, "a parent of another kind": kinds,
		"a missing parent": missing, "an account that is its own parent": itself, "an account twice": append(sample(), sample()[12]),
		"another order": swapped, "too many accounts": chain(201, false), "a code of 0": {{Kind: 1}}, "a code beyond the limit": {{Code: 100000, Kind: 1}},
		"no kind": {{Code: 1000}}, "a kind beyond the limit": {{Code: 1000, Kind: 6}}, "a basis beyond the limit": {{Code: 1000, Kind: 1, Basis: 4}},
		"all of it": unordered(),
	}
}

// P8.3: accounts at all heights of the sample, and numbers that are no codes of it.
func TestUnderAndPath(t *testing.T) {
	for _, x := range []struct {
		l           []api.Account
		code        int
		under, path []int
	}{
		{example(), 1000, []int{1000, 1100}, []int{1000}}, {example(), 1100, []int{1100}, []int{1100, 1000}}, {example(), 4000, []int{4000}, []int{4000}},
		{sample(), 1000, []int{1000, 1100, 1110, 1120, 1200}, []int{1000}}, {sample(), 1100, []int{1100, 1110, 1120}, []int{1100, 1000}},
		{sample(), 1110, []int{1110}, []int{1110, 1100, 1000}}, {sample(), 1120, []int{1120}, []int{1120, 1100, 1000}}, {sample(), 1200, []int{1200}, []int{1200, 1000}},
		{sample(), 3000, []int{3000}, []int{3000}}, {sample(), 4000, []int{4000}, []int{4000, 4100, 4900}}, {sample(), 4100, []int{4000, 4100}, []int{4100, 4900}},
		{sample(), 4200, []int{4200}, []int{4200, 4900}}, {sample(), 4900, []int{4000, 4100, 4200, 4900}, []int{4900}}, {sample(), 5000, []int{5000}, []int{5000}},
		{sample(), 1, []int{1}, []int{1, 99999}}, {sample(), 99999, []int{1, 99999}, []int{99999}}, {withBases(sample()), 4100, []int{4000, 4100}, []int{4100, 4900}},
		{sample(), 0, nil, nil}, {sample(), -1, nil, nil}, {sample(), 2, nil, nil}, {sample(), 1105, nil, nil}, {sample(), 99998, nil, nil}, {sample(), 100000, nil, nil},
		{sample(), math.MinInt, nil, nil}, {sample(), math.MaxInt, nil, nil}, {sample(), 1<<32 + 1000, nil, nil}, {nil, 0, nil, nil}, {nil, 1000, nil, nil}, {[]api.Account{}, 1, nil, nil},
	} {
		if codes := chart.Under(x.l, x.code); !slices.Equal(codes, x.under) {
			t.Errorf("Under(%d): %d, not %d", x.code, codes, x.under)
		}
		if codes := chart.Path(x.l, x.code); !slices.Equal(codes, x.path) {
			t.Errorf("Path(%d): %d, not %d", x.code, codes, x.path)
		}
	}
}

// P8.3: the longest ways, and the most accounts that belong to one.
func TestLongWays(t *testing.T) {
	for _, upwards := range []bool{true, false} {
		l := chain(200, upwards)
		for i, a := range l {
			var before, behind []int
			for j := range i + 1 {
				before = append(before, 10*(j+1))
			}
			for j := i; j < 200; j++ {
				behind = append(behind, 10*(j+1))
			}
			under, path := before, behind
			if !upwards {
				under, path = behind, before
				slices.Reverse(path)
			}
			if codes := chart.Under(l, a.Code); !slices.Equal(codes, under) {
				t.Errorf("Under(%d): %d", a.Code, codes)
			}
			if codes := chart.Path(l, a.Code); !slices.Equal(codes, path) {
				t.Errorf("Path(%d): %d", a.Code, codes)
			}
		}
	}
}

// P8.3: nothing belongs to an account of a list that is no chart, and it has no path, also if the mistake is elsewhere.
func TestNoChart(t *testing.T) {
	for name, l := range notCharts() {
		for _, a := range append(l, api.Account{}) {
			if codes := chart.Under(l, a.Code); len(codes) != 0 {
				t.Errorf("%s: Under(%d): %d", name, a.Code, codes)
			}
			if codes := chart.Path(l, a.Code); len(codes) != 0 {
				t.Errorf("%s: Path(%d): %d", name, a.Code, codes)
			}
		}
	}
}

// P8.5: an account belongs to another one exactly if this one is on its path.
func TestUnderIsPath(t *testing.T) {
	for _, l := range charts() {
		var paths [][]int
		for _, a := range l {
			paths = append(paths, chart.Path(l, a.Code))
		}
		for _, b := range l {
			under := chart.Under(l, b.Code)
			for i, a := range l {
				if slices.Contains(under, a.Code) != slices.Contains(paths[i], b.Code) {
					t.Errorf("Path(%d) is %d, but Under(%d) is %d", a.Code, paths[i], b.Code, under)
				}
			}
		}
	}
}

// P8.5: those that belong to an account are itself and those that belong to its children, each once, in order.
func TestUnderIsOfChildren(t *testing.T) {
	for _, l := range charts() {
		for _, a := range l {
			want := []int{a.Code}
			for _, child := range chart.Children(l, a.Code) {
				want = append(want, chart.Under(l, child)...)
			}
			slices.Sort(want)
			if codes := chart.Under(l, a.Code); !slices.Equal(codes, want) {
				t.Errorf("Under(%d): %d, not %d", a.Code, codes, want)
			}
		}
	}
}

// P8.5: a path begins with the account, goes from parent to parent up to one that has none, and has one kind.
func TestPathIsOfParents(t *testing.T) {
	for _, l := range charts() {
		for _, a := range l {
			next := a.Code
			for _, code := range chart.Path(l, a.Code) {
				b, ok := chart.Find(l, code)
				if code != next || !ok || b.Kind != a.Kind {
					t.Errorf("Path(%d) is %d", a.Code, chart.Path(l, a.Code))
				}
				next = b.Parent
			}
			if next != 0 {
				t.Errorf("Path(%d) ends before %d", a.Code, next)
			}
		}
	}
}

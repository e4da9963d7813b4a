package mapping_test

import (
	"math"
	"math/rand"
	"slices"
	"testing"

	"tallystone/api"
	"tallystone/chart"
	"tallystone/date"
	"tallystone/mapping"
)

// balancesOf returns balances from pairs of an account and an amount.
func balancesOf(pairs ...int) []api.Balance {
	var l []api.Balance
	for i := 0; i < len(pairs); i += 2 {
		l = append(l, api.Balance{Account: pairs[i], Amount: pairs[i+1]})
	}
	return l
}

// randomBalances returns balances of some accounts of an entity, of which some are 0.
func randomBalances(r *rand.Rand, e api.Entity, limit int) []api.Balance {
	var balances []api.Balance
	for _, a := range e.Chart {
		if r.Intn(3) > 0 {
			balances = append(balances, api.Balance{Account: a.Code, Amount: r.Intn(2*limit+1) - limit})
		}
	}
	return balances
}

// move finds what Move should return, for so few balances that they add up to an int.
func move(e api.Entity, balances []api.Balance, day int) ([]api.Balance, api.Errno) {
	for i, b := range balances {
		if b.Amount < -most || b.Amount > most || i > 0 && b.Account <= balances[i-1].Account {
			return nil, api.ErrArg
		}
	}
	var moved []api.Balance
	for _, b := range balances {
		to, err := at(e, b.Account, day)
		if err != api.OK {
			return nil, err
		}
		i := slices.IndexFunc(moved, func(m api.Balance) bool { return m.Account == to })
		if i < 0 {
			i, moved = len(moved), append(moved, api.Balance{Account: to})
		}
		moved[i].Amount += b.Amount
	}
	for _, m := range moved {
		if m.Amount < -most || m.Amount > most {
			return nil, api.ErrRange
		}
	}
	moved = slices.DeleteFunc(moved, func(m api.Balance) bool { return m.Amount == 0 })
	slices.SortFunc(moved, func(a, b api.Balance) int {
		if a.Account < b.Account {
			return -1
		}
		return 1
	})
	return moved, api.OK
}

// wantMove tests what balances are moved to, or the error.
func wantMove(t *testing.T, e api.Entity, balances []api.Balance, day int, want []api.Balance, wantError api.Errno) {
	t.Helper()
	if moved, err := mapping.Move(e, balances, day); err != wantError || !slices.Equal(moved, want) {
		t.Errorf("Move(%v, %d): %v, error %d, not %v, error %d", balances, day, moved, err, want, wantError)
	}
}

// P9.4: balances that stay apart or are added, in the order of the accounts of the group, on several days.
func TestMove(t *testing.T) {
	e := sample()
	for _, x := range []struct {
		balances []api.Balance
		day      int
		want     []api.Balance
	}{
		{balancesOf(100, 70, 110, -30, 400, -40), 10, balancesOf(1000, 70, 1100, -30, 4000, -40)},
		{balancesOf(100, 70, 110, -30, 400, -40), 50, balancesOf(1100, 40, 4000, -40)},
		{balancesOf(100, 70, 110, -30, 400, -40), 60, balancesOf(1000, -30, 1100, 70, 4000, -40)},
		{balancesOf(100, 70, 110, -30, 400, -40), 90, balancesOf(1000, 40, 4000, -40)},
		{balancesOf(100, 1, 110, 20, 200, 300, 300, 4000, 400, 50000, 500, 600000), date.Max, balancesOf(1000, 21, 2000, 300, 3000, 4000, 4000, 50000, 5100, 600000)},
		{balancesOf(400, 7), date.Min, balancesOf(4000, 7)}, {balancesOf(200, -9), -7, balancesOf(2000, -9)}, {balancesOf(100, 1), 49, balancesOf(1000, 1)},
		{nil, 0, nil}, {[]api.Balance{}, date.Max, nil},
	} {
		wantMove(t, e, x.balances, x.day, x.want, api.OK)
	}
	crossed := api.Entity{Chart: sample().Chart, Links: []api.Link{{From: 100, To: 1100}, {From: 110, To: 1000}, {From: 120, To: 1100}}}
	wantMove(t, crossed, balancesOf(100, 1, 110, 20, 120, 300), 0, balancesOf(1000, 20, 1100, 301), api.OK)
}

// P9.4: sums of 0 are left out, whether of zeros or of amounts that cancel; balances of 0 are mapped like others.
func TestMoveOfZeros(t *testing.T) {
	e := sample()
	wantMove(t, e, balancesOf(100, 0), 0, nil, api.OK)
	wantMove(t, e, balancesOf(100, 5, 110, -5), 50, nil, api.OK)
	wantMove(t, e, balancesOf(100, 5, 110, -5), 49, balancesOf(1000, 5, 1100, -5), api.OK)
	wantMove(t, e, balancesOf(100, 5, 110, -5, 400, 1), 50, balancesOf(4000, 1), api.OK)
	wantMove(t, e, balancesOf(100, most, 110, -most), 50, nil, api.OK)
	wantMove(t, e, balancesOf(100, 0, 110, 0, 200, 3, 400, 0), 50, balancesOf(2000, 3), api.OK)
	wantMove(t, e, balancesOf(100, 5, 110, 0), 50, balancesOf(1100, 5), api.OK)
	wantMove(t, e, balancesOf(120, 0), 0, nil, api.ErrMapping)
	wantMove(t, e, balancesOf(130, 0), 0, nil, api.ErrNone)
	wantMove(t, e, balancesOf(100, 0), date.Min-1, nil, api.ErrRange)
}

// P9.4: accounts that are equal or decrease, and amounts beyond the limit, before any other error.
func TestMoveOfNoBalances(t *testing.T) {
	e := sample()
	for _, balances := range [][]api.Balance{
		balancesOf(100, 1, 100, 1), balancesOf(100, 0, 100, 0), balancesOf(110, 1, 100, 1), balancesOf(100, 1, 400, 1, 110, 1), balancesOf(100, 1, 400, 1, 400, 1), balancesOf(0, 1, 0, 1),
		balancesOf(-1, 1, -2, 1), balancesOf(math.MaxInt, 1, math.MinInt, 1), balancesOf(100, most+1), balancesOf(100, -most-1), balancesOf(100, math.MaxInt), balancesOf(100, math.MinInt),
		balancesOf(100, math.MinInt+1), balancesOf(100, 1<<32*1000), balancesOf(100, 1, 110, most+1), balancesOf(100, 1, 110, 1, 400, -most-1), balancesOf(100, most+1, 110, -most),
		// The balances are named before accounts that are not there or not mapped and sums beyond the limit, wherever these stand.
		balancesOf(130, 1, 130, 1), balancesOf(120, 1, 100, 1), balancesOf(120, 1, 130, most+1), balancesOf(100, most, 110, most, 105, 1), balancesOf(100, most, 110, most, 120, most+1),
	} {
		for _, day := range []int{50, 0, -1, date.Min, date.Max, date.Min - 1, date.Max + 1, math.MinInt, math.MaxInt} {
			wantMove(t, e, balances, day, nil, api.ErrArg)
			wantMove(t, api.Entity{}, balances, day, nil, api.ErrArg)
		}
	}
}

// P9.4: the error of At for the first account that has one, before sums beyond the limit, wherever these stand.
func TestErrorsOfMove(t *testing.T) {
	e := sample()
	for _, x := range []struct {
		balances []api.Balance
		day      int
		want     api.Errno
	}{
		{balancesOf(120, 1), 50, api.ErrMapping}, {balancesOf(130, 1), 50, api.ErrNone}, {balancesOf(100, 1), date.Max + 1, api.ErrRange}, {balancesOf(130, 1), date.Min - 1, api.ErrRange},
		{balancesOf(120, 1, 130, 1), 50, api.ErrMapping}, {balancesOf(105, 1, 120, 1), 50, api.ErrNone}, {balancesOf(120, 1, 130, 1), date.Max + 1, api.ErrRange},
		{balancesOf(100, 1, 120, 1, 130, 1), 50, api.ErrMapping}, {balancesOf(100, 1, 105, 1, 120, 1), 50, api.ErrNone}, {balancesOf(100, 1, 110, 1, 400, 1, 500, 1), 50, api.ErrMapping},
		{balancesOf(100, 1, 110, 1), 9, api.ErrMapping}, {balancesOf(100, 1, 110, 1), 10, api.OK}, {balancesOf(-1, 1), 0, api.ErrNone}, {balancesOf(math.MinInt, 1, math.MaxInt, 1), 0, api.ErrNone},
		{balancesOf(100, most, 110, most, 120, 1), 50, api.ErrMapping}, {balancesOf(100, most, 110, most, 130, 1), 50, api.ErrNone}, {balancesOf(1, 1, 100, most, 110, most), 50, api.ErrNone},
		{balancesOf(100, most, 110, most), date.Max + 1, api.ErrRange}, {balancesOf(100, most, 110, most), 50, api.ErrRange}, {balancesOf(100, most, 110, 1, 200, 5, 500, 1), 50, api.ErrMapping},
	} {
		moved, err := mapping.Move(e, x.balances, x.day)
		if err != x.want || err != api.OK && len(moved) != 0 {
			t.Errorf("Move(%v, %d): %v, error %d, not %d", x.balances, x.day, moved, err, x.want)
		}
	}
	// Without balances, there is no account that has an error.
	for _, day := range []int{date.Min - 1, date.Max + 1, math.MinInt, math.MaxInt} {
		wantMove(t, e, nil, day, nil, api.OK)
		wantMove(t, api.Entity{}, []api.Balance{}, day, nil, api.OK)
	}
}

// P9.4: sums at the limit and beyond it; a sum may be in range though some amounts in it add up to more.
func TestMoveAtLimits(t *testing.T) {
	e := api.Entity{Chart: sample().Chart}
	for _, a := range e.Chart {
		e.Links = append(e.Links, api.Link{From: a.Code, To: 1000})
	}
	e.Links[6].To = 5000
	for _, x := range []struct {
		balances, want []api.Balance
	}{
		{balancesOf(100, most), balancesOf(1000, most)}, {balancesOf(100, -most), balancesOf(1000, -most)}, {balancesOf(100, most-1, 110, 1), balancesOf(1000, most)},
		{balancesOf(100, 1-most, 110, -1), balancesOf(1000, -most)}, {balancesOf(100, most, 110, most, 120, -most), balancesOf(1000, most)},
		{balancesOf(100, -most, 110, -most, 120, most), balancesOf(1000, -most)}, {balancesOf(100, most, 110, most, 120, most, 200, -most, 300, -most), balancesOf(1000, most)},
		{balancesOf(100, most, 110, most, 120, -most, 200, -most, 300, 8), balancesOf(1000, 8)}, {balancesOf(100, most, 110, most, 120, -most, 200, 1-most), balancesOf(1000, 1)},
		{balancesOf(100, most, 500, most), balancesOf(1000, most, 5000, most)}, {balancesOf(100, 1, 110, most, 120, -2, 500, -most), balancesOf(1000, most-1, 5000, -most)},
		{balancesOf(100, most-1, 110, most-1, 120, 2, 200, -most), balancesOf(1000, most)}, {balancesOf(100, 5-most, 110, -6, 120, most), balancesOf(1000, -1)},
	} {
		wantMove(t, e, x.balances, 0, x.want, api.OK)
	}
	for _, balances := range [][]api.Balance{
		balancesOf(100, most, 110, 1), balancesOf(100, -most, 110, -1), balancesOf(100, 1, 110, most), balancesOf(100, most, 110, most), balancesOf(100, -most, 110, -most),
		balancesOf(100, most, 110, most-1), balancesOf(100, most-1, 110, most-1), balancesOf(100, 1-most, 110, 1-most), balancesOf(100, most, 110, most, 120, 1-most),
		balancesOf(100, -most, 110, -most, 120, most-1), balancesOf(100, most, 110, 1, 500, -1), balancesOf(100, most, 110, most, 120, most, 200, most, 300, most, 400, most),
		balancesOf(100, most-1, 110, 2, 500, -most), balancesOf(100, 1-most, 110, -2), balancesOf(100, most/2, 110, most/2, 120, 1),
	} {
		wantMove(t, e, balances, 0, nil, api.ErrRange)
	}
	// One sum beyond the limit is enough, whether that of the first or of the last account of the group.
	e.Links[5].To = 5000
	wantMove(t, e, balancesOf(100, most, 110, 1, 400, 1, 500, 1), 0, nil, api.ErrRange)
	wantMove(t, e, balancesOf(100, 1, 110, 1, 400, most, 500, 1), 0, nil, api.ErrRange)
	wantMove(t, e, balancesOf(100, 1, 110, 1, 400, most, 500, -1), 0, balancesOf(1000, 2, 5000, most-1), api.OK)
}

// P9.4: entities whose mapping is not valid: an account of the group may be any number.
func TestMoveOfInvalidMappings(t *testing.T) {
	e := unordered()
	wantMove(t, e, balancesOf(-5, 1, 0, 2, 10, 3, 30, 4), 5, balancesOf(-6, 3, 0, 2, 1, 4, 9, 1), api.OK)
	wantMove(t, e, balancesOf(math.MinInt, 9, -5, 1, 0, 2), 3, balancesOf(0, 2, 9, 1, math.MaxInt, 9), api.OK)
	wantMove(t, e, balancesOf(-5, 1, 10, 3), -1, balancesOf(math.MinInt, 1, -6, 3), api.OK)
	wantMove(t, e, balancesOf(10, 3, 20, 4), 5, nil, api.ErrNone)
	wantMove(t, e, balancesOf(10, 3, math.MaxInt, 4), 5, nil, api.ErrMapping)
	slices.Reverse(e.Links)
	wantMove(t, e, balancesOf(30, 4), 5, balancesOf(11, 4), api.OK)
}

// P9.4, P1: any entities and balances, compared with another implementation.
func TestMoveOfRandomEntities(t *testing.T) {
	r := rand.New(rand.NewSource(6))
	results := map[api.Errno]int{}
	for range 6000 {
		e := randomEntity(r)
		if r.Intn(2) == 0 {
			e, _ = randomMapping(r)
		}
		var balances []api.Balance
		for _, a := range e.Chart {
			if r.Intn(2) == 0 {
				balances = append(balances, api.Balance{Account: a.Code, Amount: r.Intn(7) - 3})
			}
		}
		slices.SortFunc(balances, func(a, b api.Balance) int {
			if a.Account < b.Account {
				return -1
			}
			return 1
		})
		if len(balances) > 0 && r.Intn(4) == 0 {
			balances[r.Intn(len(balances))].Amount = most + r.Intn(2)
		}
		day := []int{date.Min - 1, date.Min, 0, 1, 7, 50, date.Max, date.Max, date.Max, date.Max + 1}[r.Intn(10)]
		want, wantError := move(e, balances, day)
		wantMove(t, e, balances, day, want, wantError)
		results[wantError]++
	}
	for _, err := range []api.Errno{api.OK, api.ErrArg, api.ErrRange, api.ErrMapping} {
		if results[err] < 100 {
			t.Errorf("only %d results with the error %d", results[err], err)
		}
	}
}

// total returns the sum of balances.
func total(balances []api.Balance) int {
	sum := 0
	for _, b := range balances {
		sum += b.Amount
	}
	return sum
}

// totals returns the sums of balances by the kinds of their accounts.
func totals(balances []api.Balance, l []api.Account) [6]int {
	var sums [6]int
	for _, b := range balances {
		a, _ := chart.Find(l, b.Account)
		sums[a.Kind] += b.Amount
	}
	return sums
}

// P9.5: moving keeps the sum of all balances, also if the mapping is not valid, and that of each kind if it is.
func TestSumsAreKept(t *testing.T) {
	r := rand.New(rand.NewSource(7))
	kept := 0
	for range 3000 {
		e, c := randomMapping(r)
		balances := randomBalances(r, e, most/20)
		// What is not mapped stands in no balances.
		balances = slices.DeleteFunc(balances, func(b api.Balance) bool { _, err := mapping.At(e, b.Account, 50); return err != api.OK })
		moved, err := mapping.Move(e, balances, 50)
		if err != api.OK || totals(moved, c) != totals(balances, e.Chart) || total(moved) != total(balances) {
			t.Errorf("Move(%v, %v): %v, error %d", e, balances, moved, err)
		}
		kept += len(moved)
		for i := range e.Links {
			e.Links[i].To = r.Intn(4) - 2
		}
		if moved, err = mapping.Move(e, balances, 50); err != api.OK || total(moved) != total(balances) {
			t.Errorf("Move(%v, %v): %v, error %d", e, balances, moved, err)
		}
	}
	if kept < 3000 {
		t.Errorf("only %d balances", kept)
	}
}

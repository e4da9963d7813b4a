package entry_test

import (
	"math/rand"
	"reflect"
	"slices"
	"strings"
	"testing"

	"tallystone/api"
	"tallystone/entry"
)

// wantTotal calls all functions, and tests that they change no argument.
func wantTotal(t *testing.T, g api.Group, x api.Entry, n int) {
	t.Helper()
	before, charts := clone(x), make([][]api.Account, len(g.Entities))
	for i, e := range g.Entities {
		charts[i] = slices.Clone(e.Chart)
	}
	wantError(t, "any entry", g, x, errorOf(g, x))
	reversal := entry.Reverse(x, n, n)
	if !entry.Opposite(reversal.Lines, x.Lines) {
		t.Errorf("the reversal of %v is %v", x, reversal)
	}
	wantEqual(t, "any entry", x, before, true)
	if want, ok := bigSum(x.Lines); ok {
		wantSum(t, x.Lines, want)
	}
	wantNormal(t, x.Lines, normal(x.Lines))
	if !isEqual(x, before) {
		t.Errorf("%v was changed to %v", before, x)
	}
	for i, e := range g.Entities {
		if !slices.Equal(e.Chart, charts[i]) {
			t.Errorf("the chart %v was changed to %v", charts[i], e.Chart)
		}
	}
}

// P1, P11.1: every function answers whatever its arguments are, and leaves them as they are.
func TestTotality(t *testing.T) {
	for _, n := range extremes() {
		for _, g := range []api.Group{{}, sample()} {
			wantTotal(t, g, api.Entry{}, n)
			wantTotal(t, g, sale(), n)
			for _, change := range []func(x *api.Entry){
				func(x *api.Entry) { x.ID = n },
				func(x *api.Entry) { x.Entity = n },
				func(x *api.Entry) { x.Date = n },
				func(x *api.Entry) { x.Kind = n },
				func(x *api.Entry) { x.Of = n },
				func(x *api.Entry) { x.Lines[1].Account = n },
				func(x *api.Entry) { x.Lines[1].Amount = n },
				func(x *api.Entry) { x.Lines[1].Partner = n },
				func(x *api.Entry) { x.Lines[0].Amount, x.Lines[1].Amount = n, n },
			} {
				wantTotal(t, g, changed(sale(), change), n)
			}
		}
	}
	r := rand.New(rand.NewSource(9))
	for range 5000 {
		wantTotal(t, anyGroup(r), anyEntry(r), anyNumber(r))
	}
}

func anyNumber(r *rand.Rand) int {
	if l := extremes(); r.Intn(3) == 0 {
		return l[r.Intn(len(l))]
	}
	return r.Intn(8) - 1
}

// anyGroup returns the sample group, or one with any contents.
func anyGroup(r *rand.Rand) api.Group {
	g := sample()
	switch r.Intn(6) {
	case 0:
		g.Calendar = api.Calendar{Year: anyNumber(r), Month: anyNumber(r), Periods: anyNumber(r)}
	case 1:
		g.Entities[r.Intn(4)].Chart = []api.Account{{Code: anyNumber(r), Kind: anyNumber(r)}}
	case 2:
		g.Entities = g.Entities[:r.Intn(5)]
	case 3:
		g.Chart[r.Intn(len(g.Chart))].Code = anyNumber(r)
	}
	return g
}

// anyEntry returns an entry with any contents.
func anyEntry(r *rand.Rand) api.Entry {
	x := api.Entry{ID: anyNumber(r), Entity: anyNumber(r), Date: anyNumber(r), Kind: anyNumber(r), Of: anyNumber(r), Text: []string{"", "a", "\xff", "é"}[r.Intn(4)]}
	for range r.Intn(8) {
		x.Lines = append(x.Lines, api.Line{Account: anyNumber(r), Amount: anyNumber(r), Partner: anyNumber(r)})
	}
	return x
}

// P1, P11.1: long lists and texts are answered as soon as short ones, though no entry with them is valid.
func TestLongLists(t *testing.T) {
	const length = 200000
	x := changed(sale(), func(x *api.Entry) { x.Text = strings.Repeat("x", 1000000) })
	wantError(t, "a long text", sample(), x, api.ErrArg)
	wantEqual(t, "long texts", x, changed(x, func(x *api.Entry) { x.Text += "y" }), false)
	x = sale()
	x.Lines = make([]api.Line, length)
	for i := range x.Lines {
		x.Lines[i] = api.Line{Account: length - i/2, Amount: 1 + i%2, Partner: -1}
	}
	wantError(t, "many lines", sample(), x, api.ErrArg)
	wantSum(t, x.Lines, length/2*3)
	n := entry.Normal(x.Lines)
	if len(n) != length/2 || n[0] != (api.Line{Account: length/2 + 1, Amount: 3, Partner: -1}) || n[length/2-1] != (api.Line{Account: length, Amount: 3, Partner: -1}) {
		t.Errorf("the normal form of many lines has %d lines", len(n))
	}
	reversal := entry.Reverse(x, 1, 1)
	wantOpposite(t, x.Lines, reversal.Lines, true)
	wantOpposite(t, x.Lines, x.Lines, false)
	if both := entry.Normal(slices.Concat(x.Lines, reversal.Lines)); len(both) != 0 {
		t.Errorf("many lines and their reversal have %d lines", len(both))
	}
}

// P11.1: Check leaves the whole group as it is.
func TestCheckChangesNoGroup(t *testing.T) {
	g := sample()
	entry.Check(g, sale())
	if !reflect.DeepEqual(g, sample()) {
		t.Errorf("the group was changed to %v", g)
	}
}

package entry_test

import (
	"math"
	"math/rand"
	"reflect"
	"slices"
	"testing"

	"tallystone/api"
	"tallystone/entry"
)

// isEqual reports whether two entries are equal, for tests of the functions beside Equal.
func isEqual(a, b api.Entry) bool {
	if len(a.Lines) == 0 && len(b.Lines) == 0 {
		a.Lines, b.Lines = nil, nil
	}
	return reflect.DeepEqual(a, b)
}

func wantEqual(t *testing.T, name string, a, b api.Entry, want bool) {
	t.Helper()
	if entry.Equal(a, b) != want || entry.Equal(b, a) != want {
		t.Errorf("%q: Equal(%v, %v) is not %t", name, a, b, want)
	}
	if isEqual(a, b) != want {
		t.Errorf("%q: the test says that Equal(%v, %v) is not %t", name, a, b, want)
	}
}

func wantOpposite(t *testing.T, a, b []api.Line, want bool) {
	t.Helper()
	if entry.Opposite(a, b) != want || entry.Opposite(b, a) != want {
		t.Errorf("Opposite(%v, %v) is not %t", a, b, want)
	}
}

// P11.1: entries are equal if all of their fields are.
func TestEqual(t *testing.T) {
	wantEqual(t, "the same", sale(), sale(), true)
	wantEqual(t, "nothing", api.Entry{}, api.Entry{}, true)
	wantEqual(t, "nil and empty lines", api.Entry{}, api.Entry{Lines: []api.Line{}}, true)
	wantEqual(t, "nothing and something", api.Entry{}, sale(), false)
	for name, change := range map[string]func(x *api.Entry){
		"the ID":              func(x *api.Entry) { x.ID++ },
		"the ID beyond bits":  func(x *api.Entry) { x.ID += 1 << 32 },
		"the entity":          func(x *api.Entry) { x.Entity = 1 },
		"the date":            func(x *api.Entry) { x.Date-- },
		"the kind":            func(x *api.Entry) { x.Kind = api.EntryAdjustment },
		"the origin":          func(x *api.Entry) { x.Of = 1 },
		"the text":            func(x *api.Entry) { x.Text = "Sale" },
		"a longer text":       func(x *api.Entry) { x.Text = "sale " },
		"no text":             func(x *api.Entry) { x.Text = "" },
		"an account":          func(x *api.Entry) { x.Lines[0].Account++ },
		"an amount":           func(x *api.Entry) { x.Lines[1].Amount++ },
		"a partner":           func(x *api.Entry) { x.Lines[2].Partner++ },
		"the order of lines":  func(x *api.Entry) { x.Lines[0], x.Lines[1] = x.Lines[1], x.Lines[0] },
		"a line less":         func(x *api.Entry) { x.Lines = x.Lines[:2] },
		"the first line less": func(x *api.Entry) { x.Lines = x.Lines[1:] },
		"a line more":         func(x *api.Entry) { x.Lines = append(x.Lines, api.Line{}) },
		"no lines":            func(x *api.Entry) { x.Lines = nil },
		"opposite lines":      func(x *api.Entry) { x.Lines = entry.Reverse(*x, 0, 0).Lines },
	} {
		wantEqual(t, name, sale(), changed(sale(), change), false)
	}
}

// P11.1: entries of chance are equal to their copies, and no longer if something is changed.
func TestEqualEntriesOfChance(t *testing.T) {
	r := rand.New(rand.NewSource(5))
	for range 2000 {
		x := randomEntry(r)
		wantEqual(t, "a copy", x, clone(x), true)
		y := changed(x, func(x *api.Entry) { changeField(r, x) })
		wantEqual(t, "a changed copy", x, y, isEqual(x, y))
	}
}

// P11.1: lines are opposite if the amounts of lines with the same index are, and all else is the same.
func TestOpposite(t *testing.T) {
	a := sale().Lines
	b := []api.Line{{Account: 10, Amount: -100, Partner: -1}, {Account: 15, Amount: -20, Partner: 3}, {Account: 100, Amount: 120, Partner: 1}}
	wantOpposite(t, a, b, true)
	wantOpposite(t, a, a, false)
	wantOpposite(t, nil, nil, true)
	wantOpposite(t, nil, []api.Line{}, true)
	wantOpposite(t, a, nil, false)
	wantOpposite(t, a, b[:2], false)
	wantOpposite(t, a[:2], b[:2], true)
	wantOpposite(t, a[1:], b[:2], false)
	wantOpposite(t, a, append(slices.Clone(b), api.Line{}), false)
	for i := range b {
		for _, by := range []int{1, -1, 1 << 32} {
			for _, change := range []func(l *api.Line){
				func(l *api.Line) { l.Account += by },
				func(l *api.Line) { l.Amount += by },
				func(l *api.Line) { l.Partner += by },
			} {
				c := slices.Clone(b)
				change(&c[i])
				wantOpposite(t, a, c, false)
			}
		}
		c := slices.Clone(b)
		c[i], c[(i+1)%3] = c[(i+1)%3], c[i]
		wantOpposite(t, a, c, false)
	}
}

// P11.1: lines that no valid entry has are compared too: 0 is opposite to itself only.
func TestOppositeOfAnyLines(t *testing.T) {
	for _, n := range extremes() {
		if n == math.MinInt {
			continue
		}
		wantOpposite(t, []api.Line{{Account: n, Amount: n, Partner: n}}, []api.Line{{Account: n, Amount: -n, Partner: n}}, true)
		wantOpposite(t, []api.Line{{Account: n, Amount: n, Partner: n}}, []api.Line{{Account: n, Amount: n, Partner: n}}, n == 0)
		wantOpposite(t, []api.Line{{Account: n, Amount: n, Partner: n}}, []api.Line{{Account: n, Amount: -n, Partner: n - 1}}, false)
		wantOpposite(t, []api.Line{{Account: n, Amount: n, Partner: n}}, []api.Line{{Account: -n, Amount: -n, Partner: n}}, n == 0)
		wantOpposite(t, []api.Line{{Amount: n}}, []api.Line{{Amount: -n}, {}}, false)
		wantOpposite(t, []api.Line{{Amount: n}}, []api.Line{{Amount: math.MinInt}}, false)
	}
}

package entry_test

import (
	"math/rand"
	"slices"
	"strings"
	"testing"

	"tallystone/api"
	"tallystone/entry"
	"tallystone/group"
)

// P11.1: ordinary entries have no error, on any day of the calendar, and of any entity.
func TestValid(t *testing.T) {
	g := sample()
	if !group.Valid(g) {
		t.Fatal("the group is not valid")
	}
	wantError(t, "a sale", g, sale(), api.OK)
	for day := first(g); day <= last(g); day += 1 + (day % 3 * 30) {
		wantChanged(t, "another day", api.OK, func(x *api.Entry) { x.Date = day })
	}
	r := rand.New(rand.NewSource(1))
	for range 2000 {
		wantError(t, "an entry of chance", g, randomEntry(r), api.OK)
	}
}

// P11.1: no entry of a group that is not valid is valid.
func TestGroupIsNotValid(t *testing.T) {
	for name, change := range map[string]func(g *api.Group){
		"nothing":                      func(g *api.Group) { *g = api.Group{} },
		"no currency":                  func(g *api.Group) { g.Currency = "" },
		"no calendar":                  func(g *api.Group) { g.Calendar.Periods = 0 },
		"no chart":                     func(g *api.Group) { g.Chart = nil },
		"no roles":                     func(g *api.Group) { g.Roles = api.Roles{} },
		"no entities":                  func(g *api.Group) { g.Entities = nil },
		"a joint parent":               func(g *api.Group) { g.Entities[0].Joint = true },
		"another entity without name":  func(g *api.Group) { g.Entities[2].Name = "" },
		"another entity without chart": func(g *api.Group) { g.Entities[3].Chart = nil; g.Entities[3].Links = group.Sample().Entities[3].Links },
	} {
		g := sample()
		change(&g)
		wantError(t, name, g, sale(), api.ErrArg)
		wantError(t, name+", any entry", g, api.Entry{}, api.ErrArg)
	}
}

// P11.1: IDs are positive.
func TestID(t *testing.T) {
	for _, id := range extremes() {
		want := api.ErrArg
		if id >= 1 {
			want = api.OK
		}
		wantChanged(t, "another ID", want, func(x *api.Entry) { x.ID = id })
	}
}

// P11.1: entities are those of the group, from 0 to the last one.
func TestEntity(t *testing.T) {
	g := group.Sample()
	for _, i := range append(extremes(), 2, 3) {
		want := api.ErrArg
		if 0 <= i && i <= 3 {
			want = api.OK
		}
		x := changed(sale(), func(x *api.Entry) {
			x.Entity, x.Lines[1].Account = i, 20
			for k := range x.Lines {
				x.Lines[k].Partner = -1
			}
		})
		wantError(t, "another entity", g, x, want)
	}
	for length := range 5 {
		g := group.Sample()
		g.Entities = g.Entities[:length]
		x := changed(sale(), func(x *api.Entry) {
			x.Entity, x.Lines = 1, []api.Line{{Account: 10, Amount: 5, Partner: 0}, {Account: 20, Amount: -5, Partner: -1}}
		})
		wantError(t, "fewer entities", g, x, []api.Errno{api.ErrArg, api.ErrArg, api.OK, api.OK, api.OK}[length])
	}
}

// P11.1: there are three kinds, and reversals name an entry, the others none.
func TestKindAndOf(t *testing.T) {
	for _, of := range extremes() {
		wants := map[int]bool{api.EntryNormal: of == 0, api.EntryAdjustment: of == 0, api.EntryReversal: of >= 1}
		for _, kind := range append(extremes(), 2, 3) {
			want := api.ErrArg
			if wants[kind] {
				want = api.OK
			}
			wantChanged(t, "another kind and origin", want, func(x *api.Entry) { x.Kind, x.Of = kind, of })
		}
	}
	wantChanged(t, "a reversal of itself", api.OK, func(x *api.Entry) { x.Kind, x.Of = api.EntryReversal, x.ID })
}

// P11.1: texts have up to 80 characters from ASCII 32 to 126.
func TestText(t *testing.T) {
	for _, s := range []string{"", " ", "~", "Sale 1 (\"x\")", strings.Repeat(" ", 80), strings.Repeat("~", 79)} {
		wantChanged(t, "the text "+s, api.OK, func(x *api.Entry) { x.Text = s })
	}
	for _, s := range []string{"\t", "\n", "a\n", "\x00", "a\x00b", "\x7f", "\x80", "\xff", "é", "a\u20ac", "\U0001f600", strings.Repeat("x", 81), strings.Repeat("é", 40), strings.Repeat("é", 80), strings.Repeat("x", 80) + "\n", strings.Repeat("x", 79) + "\x1f", strings.Repeat("x", 100000)} {
		wantChanged(t, "the text "+s[:1], api.ErrArg, func(x *api.Entry) { x.Text = s })
	}
	for c := range 256 {
		want := api.ErrArg
		if 32 <= c && c <= 126 {
			want = api.OK
		}
		for i := range 3 {
			s := []byte("abc")
			s[i] = byte(c)
			wantChanged(t, "the text "+string(s), want, func(x *api.Entry) { x.Text = string(s) })
		}
	}
}

// P11.1: an entry has from 2 to 40 lines.
func TestLines(t *testing.T) {
	for length := range 100 {
		want := api.ErrArg
		if 2 <= length && length <= 40 {
			want = api.OK
		}
		wantChanged(t, "some lines", want, func(x *api.Entry) {
			x.Lines = make([]api.Line, length)
			for i := range x.Lines {
				x.Lines[i] = api.Line{Account: 10, Amount: 1, Partner: -1}
			}
			if length > 1 {
				x.Lines[length/2].Amount = 1 - length
			}
		})
	}
	wantChanged(t, "no lines", api.ErrArg, func(x *api.Entry) { x.Lines = nil })
	wantChanged(t, "one line without amount", api.ErrArg, func(x *api.Entry) { x.Lines = []api.Line{{Account: 10, Partner: -1}} })
	wantChanged(t, "one line twice", api.ErrUnbalanced, func(x *api.Entry) { x.Lines[1], x.Lines[2] = x.Lines[0], x.Lines[0] })
	wantChanged(t, "the same account and partner", api.OK, func(x *api.Entry) {
		x.Lines = []api.Line{{Account: 10, Amount: 5, Partner: 1}, {Account: 10, Amount: -5, Partner: 1}}
	})
}

// P11.1: the amount of each line is an amount, and not 0.
func TestAmount(t *testing.T) {
	for i := range 3 {
		for _, n := range extremes() {
			want := api.ErrUnbalanced
			switch {
			case n == 0 || n < -api.MaxAmount || n > api.MaxAmount:
				want = api.ErrArg
			case n == sale().Lines[i].Amount:
				want = api.OK
			}
			wantChanged(t, "another amount", want, func(x *api.Entry) { x.Lines[i].Amount = n })
		}
		wantChanged(t, "an amount of 0, balanced", api.ErrArg, func(x *api.Entry) {
			x.Lines[(i+1)%3].Amount, x.Lines[(i+2)%3].Amount, x.Lines[i].Amount = 7, -7, 0
		})
		for sign := range 2 {
			for n, want := range map[int]api.Errno{api.MaxAmount: api.OK, api.MaxAmount + 1: api.ErrArg} {
				wantChanged(t, "a great amount, balanced", want, func(x *api.Entry) {
					n := n * (1 - 2*sign)
					x.Lines[i].Amount, x.Lines[(i+1)%3].Amount, x.Lines[(i+2)%3].Amount = n, -n/2, -(n - n/2)
				})
			}
		}
	}
}

// P11.1: the partner of each line is -1 or another entity of the group.
func TestPartner(t *testing.T) {
	for i := range 3 {
		for entity := range 4 {
			for _, partner := range append(extremes(), 2, 3) {
				want := api.ErrArg
				if -1 <= partner && partner <= 3 && partner != entity {
					want = api.OK
				}
				x := changed(sale(), func(x *api.Entry) {
					x.Entity, x.Lines[1].Account = entity, 20
					for k := range x.Lines {
						x.Lines[k].Partner = -1
					}
					x.Lines[i].Partner = partner
				})
				wantError(t, "another partner", group.Sample(), x, want)
			}
		}
	}
}

// P11.1: the account of each line is in the chart of the entity, not only in that of another one or of the group; it needs no
// link.
func TestAccount(t *testing.T) {
	g := sample()
	for entity, e := range g.Entities {
		known := map[int]bool{}
		for _, a := range e.Chart {
			known[a.Code] = true
		}
		for i := range 3 {
			for _, code := range append(extremes(), 10, 15, 20, 100, 140, 1000, 3000) {
				want := api.ErrUnknown
				if known[code] {
					want = api.OK
				}
				x := changed(sale(), func(x *api.Entry) {
					x.Entity = entity
					for k := range x.Lines {
						x.Lines[k].Account, x.Lines[k].Partner = 100, -1
					}
					x.Lines[i].Account = code
				})
				wantError(t, "another account", g, x, want)
			}
		}
	}
	g.Entities[0].Chart, g.Entities[0].Links = nil, nil
	wantError(t, "no chart", g, sale(), api.ErrUnknown)
}

// P11.1: the date is in a period of the calendar.
func TestDate(t *testing.T) {
	for _, c := range []api.Calendar{{Year: 2026, Month: 1, Periods: 36}, {Year: 2024, Month: 2, Periods: 1}, {Year: 1900, Month: 1, Periods: 120}, {Year: 2199, Month: 12, Periods: 1}} {
		g := sample()
		g.Calendar = c
		from, to := first(g), last(g)
		for _, day := range append(extremes(), from-32, from-1, from, from+1, from+15, to-1, to, to+1, to+32, from+1<<32) {
			want := api.ErrRange
			if from <= day && day <= to {
				want = api.OK
			}
			x := changed(sale(), func(x *api.Entry) { x.Date = day })
			wantError(t, "another date", g, x, want)
		}
	}
}

// P11.1: the amounts add up to 0 over all lines, whatever their accounts and partners are.
func TestBalance(t *testing.T) {
	for i := range 3 {
		for _, by := range []int{1, -1, 100, -100} {
			wantChanged(t, "one amount more", api.ErrUnbalanced, func(x *api.Entry) {
				x.Lines[i].Amount += by
				if x.Lines[i].Amount == 0 {
					x.Lines[i].Amount = by
				}
			})
		}
	}
	for _, n := range []int{1, 1 << 32, api.MaxAmount} {
		for _, length := range []int{2, 3, 39, 40} {
			for k := range length + 1 {
				want := api.ErrUnbalanced
				if 2*k == length {
					want = api.OK
				}
				wantChanged(t, "debits and credits", want, func(x *api.Entry) {
					x.Lines = make([]api.Line, length)
					for i := range x.Lines {
						x.Lines[i] = api.Line{Account: 10, Amount: n, Partner: 1}
						if i < k {
							x.Lines[i].Amount = -n
						}
					}
				})
			}
		}
	}
}

// P11.1: of several errors, the first one counts, also if a later line has it.
func TestOrderOfErrors(t *testing.T) {
	arguments := map[string]func(x *api.Entry){
		"the ID":         func(x *api.Entry) { x.ID = 0 },
		"the entity":     func(x *api.Entry) { x.Entity = 4 },
		"the kind":       func(x *api.Entry) { x.Kind = 4 },
		"the origin":     func(x *api.Entry) { x.Of = 1 },
		"the text":       func(x *api.Entry) { x.Text = "\n" },
		"too many lines": func(x *api.Entry) { x.Lines = append(x.Lines, make([]api.Line, 38)...) },
		"too few lines":  func(x *api.Entry) { x.Lines = x.Lines[:1] },
		"an amount":      func(x *api.Entry) { x.Lines[2].Amount = 0 },
		"a partner":      func(x *api.Entry) { x.Lines[2].Partner = 0 },
	}
	unknown := func(x *api.Entry) { x.Lines[0].Account = 11 }
	lateUnknown := func(x *api.Entry) { x.Lines[2].Account = 11 }
	undated := func(x *api.Entry) { x.Date = first(sample()) - 1 }
	unbalanced := func(x *api.Entry) { x.Lines[0].Amount++ }
	for name, argument := range arguments {
		for _, other := range []func(x *api.Entry){unknown, lateUnknown, undated, unbalanced} {
			wantChanged(t, name, api.ErrArg, func(x *api.Entry) { other(x); argument(x) })
		}
	}
	for _, u := range []func(x *api.Entry){unknown, lateUnknown} {
		wantChanged(t, "an account and the date", api.ErrUnknown, func(x *api.Entry) { u(x); undated(x) })
		wantChanged(t, "an account and the balance", api.ErrUnknown, func(x *api.Entry) { u(x); unbalanced(x) })
		wantChanged(t, "all of them", api.ErrUnknown, func(x *api.Entry) { u(x); undated(x); unbalanced(x) })
	}
	wantChanged(t, "the date and the balance", api.ErrRange, func(x *api.Entry) { undated(x); unbalanced(x) })
	wantChanged(t, "the balance", api.ErrUnbalanced, unbalanced)
}

// P11.4: a valid entry is unbalanced if one of its amounts is changed to another one.
func TestSpoiling(t *testing.T) {
	g, r := sample(), rand.New(rand.NewSource(2))
	for range 500 {
		x := randomEntry(r)
		for i, l := range x.Lines {
			for _, n := range []int{-l.Amount, l.Amount + 1, l.Amount - 1, randomAmount(r), api.MaxAmount, -api.MaxAmount} {
				if n == l.Amount || n == 0 || n < -api.MaxAmount || n > api.MaxAmount {
					continue
				}
				wantError(t, "another amount", g, changed(x, func(x *api.Entry) { x.Lines[i].Amount = n }), api.ErrUnbalanced)
			}
		}
	}
}

// P11.1: entries of chance of which some fields were changed have the error that another implementation says.
func TestChangedEntries(t *testing.T) {
	g, r := sample(), rand.New(rand.NewSource(3))
	count := map[api.Errno]int{}
	for range 20000 {
		x := randomEntry(r)
		for range 1 + r.Intn(2) {
			changeField(r, &x)
		}
		want := errorOf(g, x)
		wantError(t, "a changed entry of chance", g, x, want)
		count[want]++
	}
	for _, e := range []api.Errno{api.OK, api.ErrArg, api.ErrUnknown, api.ErrRange, api.ErrUnbalanced} {
		if count[e] < 500 {
			t.Errorf("%d entries have the error %d", count[e], e)
		}
	}
}

// changeField changes something in an entry that has lines.
func changeField(r *rand.Rand, x *api.Entry) {
	number := func() int {
		if l := extremes(); r.Intn(3) == 0 {
			return l[r.Intn(len(l))]
		}
		return r.Intn(6) - 1
	}
	l := &x.Lines[r.Intn(len(x.Lines))]
	switch r.Intn(12) {
	case 0:
		x.ID = number()
	case 1:
		x.Entity = number()
	case 2:
		x.Kind = number()
	case 3:
		x.Of = number()
	case 4:
		x.Text += randomText(r)
	case 5:
		x.Lines = slices.Concat(x.Lines, x.Lines)
	case 6:
		l.Partner = number()
	case 7, 8:
		x.Date += r.Intn(2000) - 1000
	case 9:
		l.Account = 10 + 5*r.Intn(27)
	case 10:
		l.Amount = number()
	case 11:
		l.Amount = randomAmount(r)
	}
}

// P11.1: an entry is checked in the group that is given, with its own entities, chart and calendar.
func TestOtherGroup(t *testing.T) {
	x := sale()
	if e := entry.Check(group.Sample(), x); e != api.ErrUnknown {
		t.Errorf("without the account 15: %d", e)
	}
	g := sample()
	g.Calendar.Year++
	wantError(t, "a calendar that begins later", g, x, api.ErrRange)
	g = sample()
	g.Entities[0], g.Entities[1] = g.Entities[1], g.Entities[0]
	wantError(t, "two entities exchanged", g, x, api.ErrUnknown)
	g = sample()
	g.Entities = g.Entities[:3]
	wantError(t, "without a partner", g, x, api.ErrArg)
}

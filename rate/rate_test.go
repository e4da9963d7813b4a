package rate_test

import (
	"cmp"
	"math"
	"math/rand"
	"regexp"
	"slices"
	"testing"
	"time"

	"tallystone/api"
	"tallystone/rate"
)

// The greatest value of a rate, and how many rates a table may have, and may have had.
const (
	most     = 1000000000000
	keys     = 1000
	settings = 5000
)

// extremes returns integers at, next to and far beyond all limits of the layer, and some whose lowest bits are small numbers.
func extremes() []int {
	l := []int{math.MinInt, math.MinInt + 1, math.MaxInt - 1, math.MaxInt, 0, 1 << 32, 1<<32 + 1, -1 << 32, math.MinInt + 1<<32 + 1}
	for _, limit := range []int{1, 2, 3, 119, 120, 1000, 1000000, most, firstDay(), lastDay()} {
		l = append(l, limit-1, limit, limit+1, -limit-1, -limit, -limit+1)
	}
	return l
}

// firstDay and lastDay are the first and the last date, as another implementation counts days.
func firstDay() int {
	return int(time.Date(1900, 1, 1, 0, 0, 0, 0, time.UTC).Unix() / 86400)
}

func lastDay() int {
	return int(time.Date(2199, 12, 31, 0, 0, 0, 0, time.UTC).Unix() / 86400)
}

// texts returns strings that are currencies, and strings that are not.
func texts() []string {
	return []string{
		"EUR", "USD", "AAA", "ZZZ", "AZM", "XXX", "GBP",
		"", "E", "EU", "EURO", "eur", "EUr", "eUR", "E R", " EU", "EU ", "EUR ", "EUR\n", "\nEUR", "EU\n", "EU1", "0EU", "E.R",
		"EU@", "EU[", "@EU", "[EU", "E@R", "E[R", "ÄU", "É U", "ÉU", "EU\x00", "\xff\xff\xff", "EU\xc5", "\x00EU", "ĀĂĄ", "EURUSD", "ÄÖÜ", "€",
	}
}

// isCurrency reports whether a string is a currency, as another implementation has it.
func isCurrency(s string) bool {
	return regexp.MustCompile(`^[A-Z]{3}$`).MatchString(s)
}

// isRate reports whether a rate is valid for a group currency, as the chapter has it, word by word.
func isRate(group string, r api.Rate) bool {
	spot := r.Kind == 1 && r.When >= firstDay() && r.When <= lastDay()
	average := r.Kind == 2 && r.When >= 0 && r.When <= 119
	return isCurrency(r.Currency) && r.Currency != group && (spot || average) && r.Value >= 1 && r.Value <= most
}

func sameKey(a, b api.Rate) bool {
	return a.Currency == b.Currency && a.Kind == b.Kind && a.When == b.When
}

// isList reports whether a list of rates is valid for a group currency, as the chapter has it, word by word.
func isList(group string, l []api.Rate) bool {
	if !isCurrency(group) || len(l) > keys {
		return false
	}
	for i, r := range l {
		if !isRate(group, r) || slices.ContainsFunc(l[:i], func(x api.Rate) bool { return sameKey(x, r) }) {
			return false
		}
	}
	return true
}

// before puts rates into the order of the chapter, word by word.
func before(a, b api.Rate) int {
	switch {
	case a.Currency != b.Currency:
		return cmp.Compare(a.Currency, b.Currency)
	case a.Kind != b.Kind && a.Kind == api.RateSpot:
		return -1
	case a.Kind != b.Kind:
		return 1
	}
	return cmp.Compare(a.When, b.When)
}

// currentOf returns the current rates of a history, in order: the last one for each key.
func currentOf(history []api.Rate) []api.Rate {
	var l []api.Rate
	for i, r := range history {
		if !slices.ContainsFunc(history[i+1:], func(x api.Rate) bool { return sameKey(x, r) }) {
			l = append(l, r)
		}
	}
	slices.SortFunc(l, before)
	return l
}

// keyOf returns a rate without its value: two rates have the same key if these are the same.
func keyOf(r api.Rate) api.Rate {
	r.Value = 0
	return r
}

// errorOf returns the error of setting a rate for the group currency EUR, if there are the current rates and the history.
func errorOf(current map[api.Rate]int, history []api.Rate, r api.Rate) api.Errno {
	_, known := current[keyOf(r)]
	switch {
	case !isRate("EUR", r):
		return api.ErrArg
	case len(current) == keys && !known, len(history) == settings:
		return api.ErrLimit
	}
	return api.OK
}

func newTable(t *testing.T, group string, l ...api.Rate) *rate.Table {
	t.Helper()
	x, e := rate.New(group)
	if e != api.OK || x == nil {
		t.Fatalf("the error of %q is %d", group, e)
	}
	for _, r := range l {
		wantSet(t, x, r, api.OK)
	}
	return x
}

func wantSet(t *testing.T, x *rate.Table, r api.Rate, want api.Errno) {
	t.Helper()
	if e := x.Set(r); e != want {
		t.Errorf("the error of %v is %d, not %d", r, e, want)
	}
}

func wantGet(t *testing.T, x *rate.Table, r api.Rate, value int, found bool) {
	t.Helper()
	if n, ok := x.Get(r.Currency, r.Kind, r.When); n != value || ok != found {
		t.Errorf("Get(%q, %d, %d) is %d, %t, not %d, %t", r.Currency, r.Kind, r.When, n, ok, value, found)
	}
}

func wantRates(t *testing.T, name string, got, want []api.Rate) {
	t.Helper()
	if !slices.Equal(got, want) {
		t.Errorf("%s: %d rates %v, not %d rates %v", name, len(got), got, len(want), want)
	}
}

// wantTable tests all that a table tells against its history.
func wantTable(t *testing.T, x *rate.Table, history []api.Rate) {
	t.Helper()
	current := currentOf(history)
	wantRates(t, "the history", x.History(), history)
	wantRates(t, "the current rates", x.List(), current)
	for _, r := range current {
		wantGet(t, x, r, r.Value, true)
	}
}

// randomRate returns a valid rate for the group currency EUR; only few keys are possible.
func randomRate(r *rand.Rand) api.Rate {
	x := api.Rate{Currency: []string{"USD", "GBP", "EUS", "DUR"}[r.Intn(4)], Kind: 1 + r.Intn(2), When: r.Intn(5), Value: 1 + r.Intn(20)}
	if x.Kind == api.RateSpot && r.Intn(2) == 0 {
		x.When -= 3
	}
	return x
}

func randomRates(r *rand.Rand, n int) []api.Rate {
	var l []api.Rate
	for range n {
		l = append(l, randomRate(r))
	}
	return l
}

// thousand returns as many valid rates with different keys as there may be.
func thousand() []api.Rate {
	var l []api.Rate
	for i := range 120 {
		l = append(l, api.Rate{Currency: "USD", Kind: api.RateAverage, When: i, Value: i + 1})
	}
	for i := range 880 {
		l = append(l, api.Rate{Currency: []string{"USD", "GBP"}[i%2], Kind: api.RateSpot, When: 400 - i, Value: i + 1})
	}
	return l
}

// P16.1: the example of the chapter.
func TestExample(t *testing.T) {
	r := api.Rate{Currency: "USD", Kind: api.RateSpot, When: 20000, Value: 920000}
	x := newTable(t, "EUR", r)
	wantGet(t, x, r, 920000, true)
	r.Value = 930000
	wantSet(t, x, r, api.OK)
	wantGet(t, x, r, 930000, true)
	wantRates(t, "the current rates", x.List(), []api.Rate{r})
	first := r
	first.Value = 920000
	wantRates(t, "the history", x.History(), []api.Rate{first, r})
	for _, bad := range []api.Rate{
		{Currency: "EUR", Kind: api.RateSpot, When: 20000, Value: 1},
		{Currency: "usd", Kind: api.RateSpot, When: 20000, Value: 1},
		{Currency: "USD", Kind: api.RateSpot, When: 20000, Value: 0},
	} {
		wantSet(t, x, bad, api.ErrArg)
	}
	wantTable(t, x, []api.Rate{first, r})
}

// P16.1: three letters from A to Z are a currency, and nothing else is.
func TestCurrency(t *testing.T) {
	for _, s := range texts() {
		if rate.Currency(s) != isCurrency(s) {
			t.Errorf("Currency(%q) is %t", s, !isCurrency(s))
		}
		wantNew(t, s)
	}
	for i := range 3 {
		for c := range 256 {
			b := []byte("MAZ")
			b[i] = byte(c)
			if s := string(b); rate.Currency(s) != ('A' <= c && c <= 'Z') {
				t.Errorf("Currency(%q) is %t", s, rate.Currency(s))
			}
		}
	}
	for n := range 10 {
		if s := "AAAAAAAAAA"[:n]; rate.Currency(s) != (n == 3) {
			t.Errorf("Currency(%q) is %t", s, n != 3)
		}
	}
}

// wantNew tests that currencies, and no other strings, are those of tables without rates.
func wantNew(t *testing.T, s string) {
	t.Helper()
	if valid := rate.Valid(s, nil); valid != isCurrency(s) {
		t.Errorf("Valid(%q, nil) is %t", s, valid)
	}
	for _, table := range []func() (*rate.Table, api.Errno){
		func() (*rate.Table, api.Errno) { return rate.New(s) },
		func() (*rate.Table, api.Errno) { return rate.Of(s, nil) },
		func() (*rate.Table, api.Errno) { return rate.Of(s, []api.Rate{}) },
	} {
		x, e := table()
		if !isCurrency(s) {
			if x != nil || e != api.ErrArg {
				t.Errorf("a table of %q, error %d", s, e)
			}
			continue
		}
		if x == nil || e != api.OK {
			t.Fatalf("no table of %q, error %d", s, e)
		}
		wantTable(t, x, nil)
	}
}

// P16.1: the first rate of a list with the key is found, whether or not the list is valid.
func TestFind(t *testing.T) {
	l := []api.Rate{
		{Currency: "USD", Kind: api.RateSpot, When: 5, Value: 7},
		{Currency: "USD", Kind: api.RateSpot, When: 5, Value: 8},
		{Currency: "USD", Kind: api.RateAverage, When: 5, Value: 9},
		{Currency: "EUR", Kind: api.RateSpot, When: 5, Value: 0},
		{Currency: "EUR", Kind: api.RateSpot, When: 5, Value: 4},
		{},
		{Currency: "\xff", Kind: math.MinInt, When: math.MaxInt, Value: -5},
	}
	for _, c := range []struct {
		currency          string
		kind, when, value int
		found             bool
	}{
		{"USD", 1, 5, 7, true}, {"USD", 2, 5, 9, true}, {"EUR", 1, 5, 0, true}, {"", 0, 0, 0, true}, {"\xff", math.MinInt, math.MaxInt, -5, true},
		{"USD", 1, 6, 0, false}, {"USD", 3, 5, 0, false}, {"usd", 1, 5, 0, false}, {"EUR", 2, 5, 0, false}, {"\xfe", math.MinInt, math.MaxInt, 0, false},
	} {
		if n, ok := rate.Find(l, c.currency, c.kind, c.when); n != c.value || ok != c.found {
			t.Errorf("Find(%q, %d, %d) is %d, %t, not %d, %t", c.currency, c.kind, c.when, n, ok, c.value, c.found)
		}
	}
	if n, ok := rate.Find(nil, "USD", 1, 5); n != 0 || ok {
		t.Errorf("in no list, %d, %t", n, ok)
	}
}

package entry_test

import (
	"math"
	"math/big"
	"math/rand"
	"slices"
	"testing"

	"tallystone/api"
	"tallystone/entry"
)

func wantNormal(t *testing.T, lines, want []api.Line) {
	t.Helper()
	if n := entry.Normal(lines); !slices.Equal(n, want) {
		t.Errorf("the normal form of %v is %v, not %v", lines, n, want)
	}
}

func wantSum(t *testing.T, lines []api.Line, want int) {
	t.Helper()
	if n := entry.Sum(lines); n != want {
		t.Errorf("the sum of %v is %d, not %d", lines, n, want)
	}
}

// normal returns a normal form as the chapter has it: line by line, into a list that is in order.
func normal(lines []api.Line) []api.Line {
	var list []api.Line
	for _, l := range lines {
		i := slices.IndexFunc(list, func(m api.Line) bool {
			return m.Account > l.Account || m.Account == l.Account && m.Partner >= l.Partner
		})
		switch {
		case i < 0:
			list = append(list, l)
		case list[i].Account == l.Account && list[i].Partner == l.Partner:
			list[i].Amount += l.Amount
		default:
			list = slices.Insert(list, i, l)
		}
	}
	return slices.DeleteFunc(list, func(l api.Line) bool { return l.Amount == 0 })
}

// bigSum returns the exact sum of lines, and whether it fits into an int.
func bigSum(lines []api.Line) (int, bool) {
	sum := new(big.Int)
	for _, l := range lines {
		sum.Add(sum, big.NewInt(int64(l.Amount)))
	}
	return int(sum.Int64()), sum.IsInt64()
}

// P11.1: sums of ordinary lines, and of amounts that are none but whose sum is an int.
func TestSum(t *testing.T) {
	wantSum(t, nil, 0)
	wantSum(t, []api.Line{}, 0)
	wantSum(t, sale().Lines, 0)
	wantSum(t, sale().Lines[:2], 120)
	wantSum(t, []api.Line{{Account: 7, Amount: 5, Partner: 9}}, 5)
	wantSum(t, []api.Line{{Account: 7, Partner: 9}}, 0)
	for _, n := range extremes() {
		wantSum(t, []api.Line{{Account: 3, Amount: n, Partner: 4}}, n)
		wantSum(t, []api.Line{{Amount: n}, {Amount: math.MaxInt}, {Amount: -math.MaxInt}}, n)
		wantSum(t, []api.Line{{Amount: math.MaxInt}, {Amount: n}, {Amount: -math.MaxInt}}, n)
		wantSum(t, []api.Line{{Amount: math.MinInt}, {Amount: n}, {Amount: math.MaxInt}, {Amount: 1}}, n)
	}
}

// P11.1: sums of lines of chance are exact wherever they fit into an int.
func TestSumIsExact(t *testing.T) {
	r, fitting := rand.New(rand.NewSource(6)), 0
	for range 20000 {
		lines := make([]api.Line, r.Intn(6))
		for i := range lines {
			lines[i].Amount = int(r.Uint64())
		}
		if want, ok := bigSum(lines); ok {
			wantSum(t, lines, want)
			fitting++
		}
	}
	if fitting < 10000 {
		t.Errorf("%d sums fit into an int", fitting)
	}
}

// P11.1: the example of the chapter, and the edges of normal forms.
func TestNormal(t *testing.T) {
	wantNormal(t, []api.Line{{Account: 1000, Amount: 5, Partner: -1}, {Account: 2000, Amount: -5, Partner: 1}, {Account: 1000, Amount: -2, Partner: -1}, {Account: 2000, Amount: 2, Partner: 1}},
		[]api.Line{{Account: 1000, Amount: 3, Partner: -1}, {Account: 2000, Amount: -3, Partner: 1}})
	wantNormal(t, nil, nil)
	wantNormal(t, []api.Line{}, nil)
	wantNormal(t, []api.Line{{Account: 10, Partner: 1}}, nil)
	wantNormal(t, []api.Line{{Account: 10, Amount: 4, Partner: 1}}, []api.Line{{Account: 10, Amount: 4, Partner: 1}})
	wantNormal(t, sale().Lines, sale().Lines)
	// Lines with one account are ordered by the partner, whatever their amounts are, and are not added up.
	wantNormal(t, []api.Line{{Account: 10, Amount: 1, Partner: 2}, {Account: 10, Amount: 2, Partner: -1}, {Account: 10, Amount: 3, Partner: 0}, {Account: 10, Amount: -4, Partner: 1}},
		[]api.Line{{Account: 10, Amount: 2, Partner: -1}, {Account: 10, Amount: 3, Partner: 0}, {Account: 10, Amount: -4, Partner: 1}, {Account: 10, Amount: 1, Partner: 2}})
	// Accounts come before partners, and are ordered as numbers.
	wantNormal(t, []api.Line{{Account: 100, Amount: 1, Partner: -1}, {Account: 20, Amount: 2, Partner: 11}, {Account: 9, Amount: 3, Partner: 5}, {Account: 20, Amount: 4, Partner: 9}},
		[]api.Line{{Account: 9, Amount: 3, Partner: 5}, {Account: 20, Amount: 4, Partner: 9}, {Account: 20, Amount: 2, Partner: 11}, {Account: 100, Amount: 1, Partner: -1}})
	// An account and a partner that are exchanged are another pair.
	wantNormal(t, []api.Line{{Account: 1, Amount: 5, Partner: 2}, {Account: 2, Amount: -5, Partner: 1}},
		[]api.Line{{Account: 1, Amount: 5, Partner: 2}, {Account: 2, Amount: -5, Partner: 1}})
	// Only sums that are 0 are left out, also if they are no longer 0 on the way.
	wantNormal(t, []api.Line{{Account: 1, Amount: 5}, {Account: 1, Amount: -5}, {Account: 2, Amount: 5}, {Account: 2, Amount: -5}, {Account: 2, Amount: 1}, {Account: 3}},
		[]api.Line{{Account: 2, Amount: 1}})
}

// P11.1: accounts and partners may be any integers, and sums on the way need not fit into an int.
func TestNormalOfAnyLines(t *testing.T) {
	numbers := extremes()
	var lines, want []api.Line
	for _, n := range numbers {
		lines = append(lines, api.Line{Account: n, Amount: 1, Partner: 0}, api.Line{Account: 0, Amount: math.MaxInt, Partner: n}, api.Line{Account: 0, Amount: 1 - math.MaxInt, Partner: n}, api.Line{Account: n, Amount: 1, Partner: 1})
	}
	want = normal(lines)
	wantNormal(t, lines, want)
	slices.Reverse(lines)
	wantNormal(t, lines, want)
	for _, n := range numbers {
		wantNormal(t, []api.Line{{Account: n, Amount: math.MaxInt, Partner: n}, {Account: n, Amount: 7, Partner: n}, {Account: n, Amount: -math.MaxInt, Partner: n}}, []api.Line{{Account: n, Amount: 7, Partner: n}})
		wantNormal(t, []api.Line{{Account: n, Amount: math.MinInt}, {Account: n, Amount: math.MaxInt}, {Account: n, Amount: 1}}, nil)
	}
}

// P11.3: the normal form does not depend on the order of the lines, is its own normal form, and has the same sum.
func TestNormalForm(t *testing.T) {
	r := rand.New(rand.NewSource(7))
	for range 5000 {
		lines := randomLines(r, r.Intn(60))
		n := entry.Normal(lines)
		wantNormal(t, lines, normal(lines))
		wantNormal(t, n, n)
		wantSum(t, n, entry.Sum(lines))
		for i, l := range n {
			if l.Amount == 0 || i > 0 && (n[i-1].Account > l.Account || n[i-1].Account == l.Account && n[i-1].Partner >= l.Partner) {
				t.Errorf("the normal form of %v is %v", lines, n)
			}
		}
		r.Shuffle(len(lines), func(i, j int) { lines[i], lines[j] = lines[j], lines[i] })
		wantNormal(t, lines, n)
		wantNormal(t, slices.Concat(lines, n), twice(n))
	}
}

// twice returns lines with doubled amounts.
func twice(lines []api.Line) []api.Line {
	doubled := slices.Clone(lines)
	for i := range doubled {
		doubled[i].Amount *= 2
	}
	return doubled
}

// P11.3: the lines of a valid entry in normal form are balanced; with them, it is valid again wherever they are lines of an entry.
func TestNormalFormOfValidEntry(t *testing.T) {
	g, r := sample(), rand.New(rand.NewSource(8))
	valid := 0
	for range 2000 {
		x := randomEntry(r)
		n := entry.Normal(x.Lines)
		wantSum(t, n, 0)
		x.Lines = n
		want := errorOf(g, x)
		wantError(t, "an entry in normal form", g, x, want)
		if want == api.OK {
			valid++
		}
	}
	if valid < 500 {
		t.Errorf("%d entries are valid in normal form", valid)
	}
}

// P11.1: a normal form and the lines share no memory, also if these are in normal form already.
func TestNormalCopies(t *testing.T) {
	lines := sale().Lines
	n := entry.Normal(lines)
	clear(n[:cap(n)])
	if !slices.Equal(lines, sale().Lines) {
		t.Errorf("the lines were changed to %v", lines)
	}
	n = entry.Normal(lines)
	clear(lines)
	if !slices.Equal(n, sale().Lines) {
		t.Errorf("the normal form was changed to %v", n)
	}
}

package group_test

import (
	"math"
	"math/rand"
	"slices"

	"tallystone/api"
	"tallystone/calendar"
	"tallystone/group"
	"tallystone/mapping"
)

// extremes returns integers at, next to and far beyond all limits of the layer, small ones, and some whose lowest bits are
// codes, kinds or bases.
func extremes() []int {
	l := []int{math.MinInt, math.MinInt + 1, math.MaxInt - 1, math.MaxInt, 0, 1<<32 + 1000, 1<<32 + 3300, 1<<32 + 1, -1 << 32, math.MinInt + 1500}
	for _, limit := range []int{1, 3, 5, 10, 1000, 1500, 3300, 5700, 25567, 99999, 1 << 62} {
		l = append(l, limit-1, limit, limit+1, -limit-1, -limit, -limit+1)
	}
	return l
}

// field is a role as the chapter has it: a name, the account of it in a group, and the kind and the basis of the table.
type field struct {
	name        string
	code        *int
	kind, basis int
}

// fields returns the roles of a group in the order of the table.
func fields(r *api.Roles) []field {
	return []field{
		{"investment", &r.Investment, api.KindAsset, api.BasisHistorical},
		{"goodwill", &r.Goodwill, api.KindAsset, api.BasisHistorical},
		{"associates", &r.Associates, api.KindAsset, api.BasisHistorical},
		{"inventory", &r.Inventory, api.KindAsset, api.BasisClosing},
		{"reserve", &r.Reserve, api.KindEquity, api.BasisHistorical},
		{"minority", &r.Minority, api.KindEquity, api.BasisHistorical},
		{"retained", &r.Retained, api.KindEquity, api.BasisHistorical},
		{"acquired", &r.Acquired, api.KindEquity, api.BasisHistorical},
		{"owners", &r.Owners, api.KindEquity, api.BasisHistorical},
		{"disposal", &r.Disposal, api.KindIncome, api.BasisAverage},
		{"associateProfit", &r.AssociateProfit, api.KindIncome, api.BasisAverage},
		{"dividends", &r.Dividends, api.KindIncome, api.BasisAverage},
		{"minorityProfit", &r.MinorityProfit, api.KindExpense, api.BasisAverage},
		{"difference", &r.Difference, api.KindExpense, api.BasisAverage},
		{"margin", &r.Margin, api.KindExpense, api.BasisAverage},
	}
}

// linked returns the names of the roles to whose accounts links may lead.
func linked() []string {
	return []string{"investment", "inventory", "retained", "dividends"}
}

// small returns the smallest valid group: the accounts of the roles, and an entity without accounts. The codes are in another
// order than the roles.
func small() api.Group {
	g := api.Group{Currency: "AZM", Calendar: api.Calendar{Year: 1900, Month: 1, Periods: 1}, Entities: []api.Entity{{Name: "p", Currency: "ZAM"}}}
	roles := fields(&g.Roles)
	for i := range roles {
		r := roles[len(roles)-1-i]
		*r.code = i + 1
		g.Chart = append(g.Chart, api.Account{Code: i + 1, Kind: r.kind, Basis: r.basis})
	}
	return g
}

// clone returns a group that shares no memory with another one.
func clone(g api.Group) api.Group {
	g.Chart, g.Entities = slices.Clone(g.Chart), slices.Clone(g.Entities)
	for i, e := range g.Entities {
		g.Entities[i].Chart, g.Entities[i].Links = slices.Clone(e.Chart), slices.Clone(e.Links)
	}
	return g
}

func equalEntities(a, b api.Entity) bool {
	return a.Name == b.Name && a.Currency == b.Currency && a.Joint == b.Joint && slices.Equal(a.Chart, b.Chart) && slices.Equal(a.Links, b.Links)
}

func equal(a, b api.Group) bool {
	return a.Currency == b.Currency && a.Calendar == b.Calendar && a.Roles == b.Roles && slices.Equal(a.Chart, b.Chart) && slices.EqualFunc(a.Entities, b.Entities, equalEntities)
}

// consists reports whether all bytes of a text are in a list.
func consists(s, bytes string) bool {
	for i := range len(s) {
		if !slices.Contains([]byte(bytes), s[i]) {
			return false
		}
	}
	return true
}

const (
	capitals = "ABCDEFGHIJKLMNOPQRSTUVWXYZ"
	letters  = capitals + "abcdefghijklmnopqrstuvwxyz"
)

func isCurrency(s string) bool {
	return len(s) == 3 && consists(s, capitals)
}

func isName(s string) bool {
	return 1 <= len(s) && len(s) <= 16 && consists(s[:1], letters) && consists(s, letters+"0123456789-")
}

// isValid reports what the chapter says of a group, word by word.
func isValid(g api.Group) bool {
	if !isCurrency(g.Currency) || !calendar.Valid(g.Calendar) || !mapping.Valid(api.Entity{}, g.Chart) {
		return false
	}
	for _, a := range g.Chart {
		if a.Kind <= 2 && a.Basis == 2 || a.Kind == 3 && a.Basis != 3 || a.Kind >= 4 && a.Basis != 2 {
			return false
		}
	}
	closed := map[int]bool{}
	for i, r := range fields(&g.Roles) {
		if !slices.ContainsFunc(g.Chart, func(a api.Account) bool { return a.Code == *r.code && a.Kind == r.kind && a.Basis == r.basis }) {
			return false
		}
		closed[*r.code] = !slices.Contains(linked(), r.name)
		if len(closed) != i+1 {
			return false
		}
	}
	for i, e := range g.Entities {
		if !isName(e.Name) || !isCurrency(e.Currency) || !mapping.Valid(e, g.Chart) || slices.ContainsFunc(e.Links, func(l api.Link) bool { return closed[l.To] }) {
			return false
		}
		if first, _ := find(g, e.Name); first != i {
			return false
		}
	}
	return 1 <= len(g.Entities) && len(g.Entities) <= 12 && !g.Entities[0].Joint
}

func find(g api.Group, name string) (int, bool) {
	i := slices.IndexFunc(g.Entities, func(e api.Entity) bool { return e.Name == name })
	return max(i, 0), i >= 0
}

// named returns the sample group with so many entities, each with another name and another currency, some of them Joint.
func named(r *rand.Rand, length int) api.Group {
	g := group.Sample()
	one := g.Entities[0]
	g.Entities = nil
	for i := range length {
		e := clone(api.Group{Entities: []api.Entity{one}}).Entities[0]
		e.Name, e.Currency, e.Joint = randomName(r, i), randomCurrency(r), i > 0 && r.Intn(2) == 0
		g.Entities = append(g.Entities, e)
	}
	return g
}

// randomName returns a name that differs from that for any other number up to 24.
func randomName(r *rand.Rand, number int) string {
	s := []byte{letters[number+r.Intn(2)*26]}
	for range r.Intn(16) {
		s = append(s, (letters + "0123456789-")[r.Intn(63)])
	}
	return string(s)
}

func randomCurrency(r *rand.Rand) string {
	return string([]byte{capitals[r.Intn(26)], capitals[r.Intn(26)], capitals[r.Intn(26)]})
}

// randomGroup returns a valid group: a chart with further accounts and parents, roles on any of the accounts that fit, and
// entities with parts of the charts and links of the sample's.
func randomGroup(r *rand.Rand) api.Group {
	g := named(r, 1+r.Intn(12))
	g.Currency = randomCurrency(r)
	g.Calendar = randomCalendar(r)
	g.Chart = nil
	var kinds []api.Account
	for _, f := range fields(&g.Roles) {
		kinds = append(kinds, api.Account{Kind: f.kind, Basis: f.basis})
	}
	for range r.Intn(20) {
		kinds = append(kinds, kinds[r.Intn(len(kinds))], api.Account{Kind: api.KindLiability, Basis: api.BasisClosing + 2*r.Intn(2)})
	}
	for i, k := range r.Perm(len(kinds)) {
		a := kinds[k]
		a.Code = (i+1)*1500 + r.Intn(1500)
		g.Chart = append(g.Chart, a)
		if k < 15 {
			*fields(&g.Roles)[k].code = a.Code
		}
	}
	for i := range g.Chart {
		if j := r.Intn(len(g.Chart)); j < i && g.Chart[j].Kind == g.Chart[i].Kind {
			g.Chart[i].Parent = g.Chart[j].Code
		}
	}
	for i := range g.Entities {
		g.Entities[i].Links = randomLinks(r, g, g.Entities[i])
	}
	return g
}

// randomLinks returns valid links of an entity to accounts of a group, of which many are roles.
func randomLinks(r *rand.Rand, g api.Group, e api.Entity) []api.Link {
	var ends []api.Account
	closed := map[int]bool{}
	for _, f := range fields(&g.Roles) {
		closed[*f.code] = !slices.Contains(linked(), f.name)
	}
	for _, a := range g.Chart {
		if !closed[a.Code] {
			ends = append(ends, a)
		}
	}
	var links []api.Link
	for _, a := range e.Chart {
		for since := range r.Intn(4) {
			if to := ends[r.Intn(len(ends))]; to.Kind == a.Kind {
				links = append(links, api.Link{From: a.Code, To: to.Code, Since: since*1000 - 25567})
			}
		}
	}
	return links
}

func randomCalendar(r *rand.Rand) api.Calendar {
	return api.Calendar{Year: 1900 + r.Intn(290), Month: 1 + r.Intn(12), Periods: 1 + r.Intn(120)}
}

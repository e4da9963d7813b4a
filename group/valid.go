package group

import (
	"tallystone/api"
	"tallystone/calendar"
	"tallystone/chart"
	"tallystone/mapping"
)

// Valid reports whether a group is valid.
func Valid(g api.Group) bool {
	return isCurrency(g.Currency) && calendar.Valid(g.Calendar) && isChart(g.Chart) && areRoles(g) && areEntities(g)
}

// isCurrency reports whether a text is a currency: ASCII letters only, as layer 16 says.
func isCurrency(s string) bool {
	if len(s) != 3 {
		return false
	}
	for i := range len(s) {
		if !isCapital(s[i]) {
			return false
		}
	}
	return true
}

// isName reports whether a text is the name of an entity.
func isName(s string) bool {
	if len(s) == 0 || len(s) > api.MaxName || !isLetter(s[0]) {
		return false
	}
	for i := range len(s) {
		if !isLetter(s[i]) && !isDigit(s[i]) && s[i] != '-' {
			return false
		}
	}
	return true
}

func isCapital(c byte) bool {
	return 'A' <= c && c <= 'Z'
}

func isLetter(c byte) bool {
	return isCapital(c) || 'a' <= c && c <= 'z'
}

func isDigit(c byte) bool {
	return '0' <= c && c <= '9'
}

// isChart reports whether a list of accounts is the chart of a valid group.
func isChart(l []api.Account) bool {
	if !chart.Valid(l, true) {
		return false
	}
	for _, a := range l {
		if !hasBasis(a) {
			return false
		}
	}
	return true
}

// hasBasis reports whether an account of a valid chart has a basis that its kind allows.
func hasBasis(a api.Account) bool {
	switch a.Kind {
	case api.KindAsset, api.KindLiability:
		return a.Basis != api.BasisAverage
	case api.KindEquity:
		return a.Basis == api.BasisHistorical
	default:
		return a.Basis == api.BasisAverage
	}
}

// areRoles reports whether the roles of a group are different accounts of its chart, each one as it has to be.
func areRoles(g api.Group) bool {
	roles, codes := rolesOf(g.Roles), map[int]bool{}
	for _, r := range roles {
		a, ok := Account(g, r.code)
		if !ok || a.Kind != r.kind || a.Basis != r.basis {
			return false
		}
		codes[r.code] = true
	}
	return len(codes) == len(roles)
}

// areEntities reports whether the entities of a group with a valid chart and valid roles are valid.
func areEntities(g api.Group) bool {
	if len(g.Entities) == 0 || len(g.Entities) > api.MaxEntities || g.Entities[0].Joint {
		return false
	}
	names := map[string]bool{}
	for _, e := range g.Entities {
		if names[e.Name] || !isEntity(g, e) {
			return false
		}
		names[e.Name] = true
	}
	return true
}

func isEntity(g api.Group, e api.Entity) bool {
	if !isName(e.Name) || !isCurrency(e.Currency) || !mapping.Valid(e, g.Chart) {
		return false
	}
	for _, l := range e.Links {
		if !isOpen(g, l.To) {
			return false
		}
	}
	return true
}

// isOpen reports whether links may lead to an account: most roles are kept for derived postings.
func isOpen(g api.Group, code int) bool {
	switch code {
	case g.Roles.Investment, g.Roles.Inventory, g.Roles.Retained, g.Roles.Dividends:
		return true
	}
	_, ok := Role(g, code)
	return !ok
}

package group

import "tallystone/api"

// role is an account with a special meaning, and the kind and the basis that it has in a valid group.
type role struct {
	name              string
	code, kind, basis int
}

// rolesOf returns the roles in their order.
func rolesOf(r api.Roles) [15]role {
	return [15]role{
		{"investment", r.Investment, api.KindAsset, api.BasisHistorical},
		{"goodwill", r.Goodwill, api.KindAsset, api.BasisHistorical},
		{"associates", r.Associates, api.KindAsset, api.BasisHistorical},
		{"inventory", r.Inventory, api.KindAsset, api.BasisClosing},
		{"reserve", r.Reserve, api.KindEquity, api.BasisHistorical},
		{"minority", r.Minority, api.KindEquity, api.BasisHistorical},
		{"retained", r.Retained, api.KindEquity, api.BasisHistorical},
		{"acquired", r.Acquired, api.KindEquity, api.BasisHistorical},
		{"owners", r.Owners, api.KindEquity, api.BasisHistorical},
		{"disposal", r.Disposal, api.KindIncome, api.BasisAverage},
		{"associateProfit", r.AssociateProfit, api.KindIncome, api.BasisAverage},
		{"dividends", r.Dividends, api.KindIncome, api.BasisAverage},
		{"minorityProfit", r.MinorityProfit, api.KindExpense, api.BasisAverage},
		{"difference", r.Difference, api.KindExpense, api.BasisAverage},
		{"margin", r.Margin, api.KindExpense, api.BasisAverage},
	}
}

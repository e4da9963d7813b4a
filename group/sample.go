package group

import (
	"tallystone/api"
	"tallystone/date"
)

// Sample returns a group that serves as an example.
func Sample() api.Group {
	return api.Group{
		Currency: "EUR",
		Calendar: api.Calendar{Year: 2026, Month: 1, Periods: 36},
		Chart:    sampleChart(),
		Roles:    sampleRoles(),
		Entities: []api.Entity{
			sampleEntity("parent", "EUR", false),
			sampleEntity("north", "EUR", false),
			sampleEntity("west", "USD", false),
			sampleEntity("joint", "USD", true),
		},
	}
}

func sampleChart() []api.Account {
	return []api.Account{
		{Code: 1000, Kind: api.KindAsset, Basis: api.BasisClosing},
		{Code: 1010, Kind: api.KindAsset, Basis: api.BasisClosing, Parent: 1000},
		{Code: 1100, Kind: api.KindAsset, Basis: api.BasisClosing, Parent: 1000},
		{Code: 1200, Kind: api.KindAsset, Basis: api.BasisClosing, Parent: 1000},
		{Code: 1300, Kind: api.KindAsset, Basis: api.BasisHistorical},
		{Code: 1500, Kind: api.KindAsset, Basis: api.BasisHistorical},
		{Code: 1600, Kind: api.KindAsset, Basis: api.BasisHistorical},
		{Code: 1700, Kind: api.KindAsset, Basis: api.BasisHistorical},
		{Code: 2000, Kind: api.KindLiability, Basis: api.BasisClosing},
		{Code: 2100, Kind: api.KindLiability, Basis: api.BasisClosing, Parent: 2000},
		{Code: 3000, Kind: api.KindEquity, Basis: api.BasisHistorical},
		{Code: 3100, Kind: api.KindEquity, Basis: api.BasisHistorical},
		{Code: 3200, Kind: api.KindEquity, Basis: api.BasisHistorical},
		{Code: 3300, Kind: api.KindEquity, Basis: api.BasisHistorical},
		{Code: 3400, Kind: api.KindEquity, Basis: api.BasisHistorical},
		{Code: 3500, Kind: api.KindEquity, Basis: api.BasisHistorical},
		{Code: 4000, Kind: api.KindIncome, Basis: api.BasisAverage},
		{Code: 4100, Kind: api.KindIncome, Basis: api.BasisAverage, Parent: 4000},
		{Code: 4500, Kind: api.KindIncome, Basis: api.BasisAverage},
		{Code: 4600, Kind: api.KindIncome, Basis: api.BasisAverage},
		{Code: 4700, Kind: api.KindIncome, Basis: api.BasisAverage},
		{Code: 5000, Kind: api.KindExpense, Basis: api.BasisAverage},
		{Code: 5100, Kind: api.KindExpense, Basis: api.BasisAverage},
		{Code: 5500, Kind: api.KindExpense, Basis: api.BasisAverage},
		{Code: 5600, Kind: api.KindExpense, Basis: api.BasisAverage},
		{Code: 5700, Kind: api.KindExpense, Basis: api.BasisAverage},
	}
}

func sampleRoles() api.Roles {
	return api.Roles{
		Investment:      1500,
		Goodwill:        1600,
		Associates:      1700,
		Inventory:       1200,
		Reserve:         3100,
		Minority:        3200,
		Retained:        3300,
		Acquired:        3400,
		Owners:          3500,
		Disposal:        4500,
		AssociateProfit: 4600,
		Dividends:       4700,
		MinorityProfit:  5500,
		Difference:      5600,
		Margin:          5700,
	}
}

func sampleEntity(name, currency string, joint bool) api.Entity {
	accounts := [...]struct{ kind, to int }{
		{api.KindAsset, 1010},     // cash
		{api.KindAsset, 1100},     // receivables
		{api.KindAsset, 1200},     // inventory
		{api.KindAsset, 1300},     // equipment
		{api.KindAsset, 1500},     // investments
		{api.KindLiability, 2000}, // payables
		{api.KindLiability, 2100}, // loans
		{api.KindEquity, 3000},    // capital
		{api.KindEquity, 3300},    // retained
		{api.KindIncome, 4000},    // sales
		{api.KindIncome, 4100},    // services
		{api.KindIncome, 4700},    // dividends
		{api.KindExpense, 5000},   // purchases
		{api.KindExpense, 5100},   // other
	}
	e := api.Entity{Name: name, Currency: currency, Joint: joint}
	for i, a := range accounts {
		code := 10 * (i + 1)
		e.Chart = append(e.Chart, api.Account{Code: code, Kind: a.kind})
		e.Links = append(e.Links, api.Link{From: code, To: a.to, Since: date.Min})
	}
	return e
}

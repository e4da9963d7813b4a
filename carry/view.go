package carry

import (
	"tallystone/api"
	"tallystone/calendar"
	"tallystone/group"
)

// view is what decides on which account of a group an amount is shown for a period.
type view struct {
	// results says of each account of the chart whether it is an income or an expense account.
	results map[int]bool
	// begin is the first day of the fiscal year.
	begin    int
	retained int
}

func viewOf(g api.Group, p int) (view, api.Errno) {
	if !group.Valid(g) {
		return view{}, api.ErrArg
	}
	begin, e := calendar.Begin(g.Calendar, p)
	if e != api.OK {
		return view{}, e
	}
	results := map[int]bool{}
	for _, a := range g.Chart {
		results[a.Code] = group.Result(g, a.Code)
	}
	return view{results, begin, g.Roles.Retained}, api.OK
}

// viewOfAll returns a view of dated amounts, which have to be valid.
func viewOfAll(g api.Group, l []Dated, p int) (view, api.Errno) {
	v, e := viewOf(g, p)
	if e == api.OK {
		e = v.check(l)
	}
	if e != api.OK {
		return view{}, e
	}
	return v, api.OK
}

func (v view) has(account int) bool {
	_, ok := v.results[account]
	return ok
}

func (v view) place(account, date int) int {
	if v.results[account] && date < v.begin {
		return v.retained
	}
	return account
}

// check returns the error of dated amounts. An unknown account is named before an amount that is too great, wherever they stand.
func (v view) check(l []Dated) api.Errno {
	for _, d := range l {
		if !v.has(d.Account) {
			return api.ErrNone
		}
	}
	for _, d := range l {
		if !isAmount(d.Amount) {
			return api.ErrArg
		}
	}
	return api.OK
}

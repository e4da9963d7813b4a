package entry

import (
	"tallystone/api"
	"tallystone/calendar"
	"tallystone/chart"
	"tallystone/group"
	"tallystone/money"
)

// Check returns the error of an entry.
func Check(g api.Group, x api.Entry) api.Errno {
	for _, check := range checks() {
		if e := check(candidate{g, x}); e != api.OK {
			return e
		}
	}
	return api.OK
}

// candidate is an entry that is to be one of a group.
type candidate struct {
	group api.Group
	entry api.Entry
}

// checks returns the checks of an entry in their order; each one relies on those before it.
func checks() []func(candidate) api.Errno {
	return []func(candidate) api.Errno{
		candidate.checkHead,
		candidate.checkText,
		candidate.checkLines,
		candidate.checkAccounts,
		candidate.checkDate,
		candidate.checkBalance,
	}
}

// checkHead checks the group, and the numbers of the entry other than the date.
func (c candidate) checkHead() api.Errno {
	x := c.entry
	if !group.Valid(c.group) || x.ID < 1 || !c.isEntity(x.Entity) || !isOrigin(x.Kind, x.Of) {
		return api.ErrArg
	}
	return api.OK
}

func (c candidate) checkText() api.Errno {
	text := c.entry.Text
	if len(text) > api.MaxText {
		return api.ErrArg
	}
	for i := range len(text) {
		if text[i] < ' ' || text[i] > '~' {
			return api.ErrArg
		}
	}
	return api.OK
}

// checkLines checks the lines, but for their accounts.
func (c candidate) checkLines() api.Errno {
	lines := c.entry.Lines
	if len(lines) < 2 || len(lines) > api.MaxLines {
		return api.ErrArg
	}
	for _, l := range lines {
		if l.Amount == 0 || !money.Valid(l.Amount) || !c.isPartner(l.Partner) {
			return api.ErrArg
		}
	}
	return api.OK
}

func (c candidate) checkAccounts() api.Errno {
	accounts := c.group.Entities[c.entry.Entity].Chart
	for _, l := range c.entry.Lines {
		if _, ok := chart.Find(accounts, l.Account); !ok {
			return api.ErrUnknown
		}
	}
	return api.OK
}

func (c candidate) checkDate() api.Errno {
	_, e := calendar.Period(c.group.Calendar, c.entry.Date)
	return e
}

func (c candidate) checkBalance() api.Errno {
	if Sum(c.entry.Lines) != 0 {
		return api.ErrUnbalanced
	}
	return api.OK
}

func (c candidate) isEntity(i int) bool {
	return 0 <= i && i < len(c.group.Entities)
}

// isPartner reports whether a number is another entity than that of the entry, or says that there is none.
func (c candidate) isPartner(i int) bool {
	return i == -1 || c.isEntity(i) && i != c.entry.Entity
}

// isOrigin reports whether an entry of a kind may be the reversal of the entry with the ID of, or of none.
func isOrigin(kind, of int) bool {
	switch kind {
	case api.EntryNormal, api.EntryAdjustment:
		return of == 0
	case api.EntryReversal:
		return of >= 1
	}
	return false
}

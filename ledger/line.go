package ledger

import (
	"iter"

	"tallystone/api"
)

// line is a line of an entry, with the date of the entry.
type line struct {
	api.Line
	date int
}

// linesUntil visits the lines in the entries of an entity up to a date.
func linesUntil(entries []api.Entry, entity, until int) iter.Seq[line] {
	return func(yield func(line) bool) {
		for _, x := range entries {
			if x.Entity != entity || x.Date > until {
				continue
			}
			for _, l := range x.Lines {
				if !yield(line{l, x.Date}) {
					return
				}
			}
		}
	}
}

// sum returns the sum of the amounts of those lines for which a condition holds. The lines of a journal add up to an int, as
// there are at most MaxEntries times MaxLines.
func sum(lines iter.Seq[line], holds func(line) bool) int {
	n := 0
	for l := range lines {
		if holds(l) {
			n += l.Amount
		}
	}
	return n
}

func balance(entries []api.Entry, entity, account, date int) int {
	return sum(linesUntil(entries, entity, date), func(l line) bool { return l.Account == account })
}

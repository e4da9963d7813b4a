package journal

import (
	"slices"

	"tallystone/api"
)

// Len returns the number of entries.
func (j *Journal) Len() int {
	return len(j.all())
}

// Entries returns all entries.
func (j *Journal) Entries() []api.Entry {
	return copiesOf(j.all(), func(api.Entry) bool { return true })
}

// Of returns the entries of an entity.
func (j *Journal) Of(entity int) []api.Entry {
	return copiesOf(j.all(), func(x api.Entry) bool { return x.Entity == entity })
}

// Get returns the entry with an ID.
func (j *Journal) Get(id int) (api.Entry, bool) {
	x, ok := j.find(id)
	return copyOf(x), ok
}

// Line returns the line to which a reference leads.
func (j *Journal) Line(r api.Ref) (api.Line, bool) {
	x, _ := j.find(r.Entry)
	if r.Line < 0 || r.Line >= len(x.Lines) {
		return api.Line{}, false
	}
	return x.Lines[r.Line], true
}

// Reversal returns the ID of the reversal of an entry.
func (j *Journal) Reversal(id int) (int, bool) {
	if j == nil {
		return 0, false
	}
	reversal, ok := j.reversals[id]
	return reversal, ok
}

// all returns the entries of the journal itself.
func (j *Journal) all() []api.Entry {
	if j == nil {
		return nil
	}
	return j.entries
}

// find returns the entry of the journal itself with an ID.
func (j *Journal) find(id int) (api.Entry, bool) {
	if j == nil {
		return api.Entry{}, false
	}
	i, ok := j.indices[id]
	if !ok {
		return api.Entry{}, false
	}
	return j.entries[i], true
}

// copiesOf returns copies of those entries for which a condition holds.
func copiesOf(entries []api.Entry, holds func(api.Entry) bool) []api.Entry {
	var copies []api.Entry
	for _, x := range entries {
		if holds(x) {
			copies = append(copies, copyOf(x))
		}
	}
	return copies
}

// copyOf returns an entry that shares no memory with another one.
func copyOf(x api.Entry) api.Entry {
	x.Lines = slices.Clone(x.Lines)
	return x
}

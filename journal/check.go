package journal

import (
	"tallystone/api"
	"tallystone/entry"
)

// checks returns the checks of a posting in their order; each one relies on those before it.
func (j *Journal) checks() []func(api.Entry) api.Errno {
	return []func(api.Entry) api.Errno{j.checkEntry, j.checkID, j.checkReversal, j.checkLimit}
}

func (j *Journal) checkEntry(x api.Entry) api.Errno {
	return entry.Check(j.group, x)
}

func (j *Journal) checkID(x api.Entry) api.Errno {
	if _, ok := j.find(x.ID); ok {
		return api.ErrDuplicate
	}
	return api.OK
}

// checkReversal checks whether an entry, if it is a reversal, is that of an entry of the journal.
func (j *Journal) checkReversal(x api.Entry) api.Errno {
	if x.Kind != api.EntryReversal {
		return api.OK
	}
	of, ok := j.find(x.Of)
	if !ok {
		return api.ErrNone
	}
	if _, reversed := j.Reversal(of.ID); reversed || of.Kind == api.EntryReversal {
		return api.ErrState
	}
	if of.Entity != x.Entity || of.Date > x.Date || !entry.Opposite(x.Lines, of.Lines) {
		return api.ErrConflict
	}
	return api.OK
}

func (j *Journal) checkLimit(api.Entry) api.Errno {
	if len(j.entries) >= api.MaxEntries {
		return api.ErrLimit
	}
	return api.OK
}

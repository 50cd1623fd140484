package coffer

import "coffer/api"

// newest gives the newest entry of a path whose revision is at most rev; one of the revision 0, which no entry has, if there is none.
func (x *Coffer) newest(path string, rev int) api.Entry {
	found := api.Entry{}
	for i := 0; i < len(x.entries); i++ {
		if x.entries[i].Rev <= rev && x.entries[i].Path == path {
			found = x.entries[i]
		}
	}
	return found
}

// kept gives the entry of a revision; one of the revision 0, which no entry has, if none is kept.
func (x *Coffer) kept(rev int) api.Entry {
	for i := 0; i < len(x.entries); i++ {
		if x.entries[i].Rev == rev {
			return x.entries[i]
		}
	}
	return api.Entry{}
}

// revOf gives the revision of a path; 0, if it has no secret.
func (x *Coffer) revOf(path string) int {
	entry := x.newest(path, x.state.Rev)
	if entry.Gone {
		return 0
	}
	return entry.Rev
}

func (x *Coffer) full() bool { return len(x.entries) >= x.room }

// add keeps an entry, of the next revision, which is the answer; the caller sees to it that there is room.
func (x *Coffer) add(entry api.Entry) int {
	x.state.Rev++
	entry.Rev = x.state.Rev
	x.entries = append(x.entries, entry)
	return entry.Rev
}

// Compact gives up what was there ahead of a revision (P10).
func (x *Coffer) Compact(rev int) api.Errno {
	if rev <= x.state.Floor || rev > x.state.Rev {
		return api.ErrRev
	}
	kept := []api.Entry{}
	for i := 0; i < len(x.entries); i++ {
		if x.outlives(x.entries[i], rev) {
			kept = append(kept, x.entries[i])
		}
	}
	x.entries = kept
	x.state.Floor = rev
	return api.OK
}

// outlives tells whether an entry is kept when all is compacted up to a revision.
func (x *Coffer) outlives(entry api.Entry, rev int) bool {
	if entry.Rev > rev {
		return true
	}
	last := x.newest(entry.Path, rev)
	return entry.Rev == last.Rev && !entry.Gone
}

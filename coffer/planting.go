package coffer

import "coffer/api"

// Plant lays what is kept of a revision under a path (P13).
func (x *Coffer) Plant(path string, rev int) api.Errno {
	if !isPath(path) {
		return api.ErrOp
	}
	entry := x.kept(rev)
	if entry.Rev == 0 || entry.Gone {
		return api.ErrNone
	}
	if x.full() {
		return api.ErrFull
	}
	entry.Path = path
	x.add(entry)
	// The gate has not looked at this entry.
	if x.state.Turn == api.Gated {
		x.state.Turn = api.Promoted
	}
	return api.OK
}

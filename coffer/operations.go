package coffer

import "coffer/api"

const anyRev = -1 // as the Rev of an operation: the path may have any revision

// operation is one that is under way. Of a Put the secret is kept sealed alone.
type operation struct {
	epoch int       // that the server had seen when it began
	rev   int       // that the path must have, or anyRev
	entry api.Entry // what it comes to be, but for the revision
}

// Begin begins an operation on a server (P8).
func (x *Coffer) Begin(s int, op api.Op) api.Errno {
	if !x.isServer(s) {
		return api.ErrServer
	}
	if x.servers[s].busy {
		return api.ErrBusy
	}
	seen := x.servers[s].seen
	if seen == 0 {
		return api.ErrBlind
	}
	if !isOperation(op) {
		return api.ErrOp
	}
	entry, e := x.prepared(seen, op)
	if e != api.OK {
		return e
	}
	under := operation{epoch: seen, rev: op.Rev, entry: entry}
	x.servers[s] = server{seen: seen, busy: true, op: under}
	return api.OK
}

// prepared gives what an operation comes to be, for a server that has seen an epoch.
func (x *Coffer) prepared(seen int, op api.Op) (api.Entry, api.Errno) {
	if op.Kind == api.Delete {
		return api.Entry{Path: op.Path, Gone: true}, api.OK
	}
	number := x.writer(seen)
	return x.sealed(number, op.Path, op.Plain)
}

func isOperation(op api.Op) bool {
	if op.Kind != api.Put && op.Kind != api.Delete {
		return false
	}
	if op.Kind == api.Delete && op.Plain != "" {
		return false
	}
	return isPath(op.Path) && isSecret(op.Plain) && op.Rev >= anyRev
}

// Commit ends the operation of a server (P8).
func (x *Coffer) Commit(s int) (int, api.Errno) {
	if !x.isServer(s) {
		return 0, api.ErrServer
	}
	if !x.servers[s].busy {
		return 0, api.ErrIdle
	}
	op := x.servers[s].op
	x.servers[s] = server{seen: x.servers[s].seen}
	e := x.mayCommit(op)
	if e != api.OK {
		return 0, e
	}
	return x.add(op.entry), api.OK
}

// mayCommit tells why an operation may not be committed, or OK if it may.
func (x *Coffer) mayCommit(op operation) api.Errno {
	// The key that writes has done so since the last Promote; that epoch is not kept a second time.
	last := x.key(x.state.Write)
	if op.epoch < last.wrote {
		return api.ErrStale
	}
	rev := x.revOf(op.entry.Path)
	if op.rev != anyRev && op.rev != rev {
		return api.ErrConflict
	}
	if op.entry.Gone && rev == 0 {
		return api.ErrNone
	}
	if x.full() {
		return api.ErrFull
	}
	return api.OK
}

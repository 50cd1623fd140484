package coffer

import "coffer/api"

// Stage adds a key (P11).
func (x *Coffer) Stage(key string) (int, api.Errno) {
	if !isKey(key) {
		return 0, api.ErrArg
	}
	if len(x.keys) >= api.MaxKeys {
		return 0, api.ErrMany
	}
	if x.state.Turn != api.Still {
		return 0, api.ErrTurn
	}
	x.state.Epoch++
	x.state.Turn = api.Staged
	number := x.come(key)
	return number, api.OK
}

// Promote lets the new key write (P11).
func (x *Coffer) Promote() api.Errno {
	if x.state.Turn != api.Staged {
		return api.ErrTurn
	}
	if !x.allHaveSeen() {
		return api.ErrWait
	}
	x.state.Epoch++
	x.state.Turn = api.Promoted
	x.takeOver()
	return api.OK
}

// Migrate seals some secrets anew (P12).
func (x *Coffer) Migrate(n int) (int, api.Errno) {
	if n < 0 || n > api.MaxMove {
		return 0, api.ErrArg
	}
	if !x.isPromoted() {
		return 0, api.ErrTurn
	}
	for moved := 0; moved < n; moved++ {
		old, plain := x.firstOld()
		if old.Rev == 0 {
			return moved, api.OK
		}
		if x.full() {
			return moved, api.ErrFull
		}
		entry, e := x.sealed(x.state.Write, old.Path, plain)
		if e != api.OK {
			return moved, e
		}
		x.add(entry)
	}
	return n, api.OK
}

// Gate looks whether the old key is out of use (P12).
func (x *Coffer) Gate() api.Errno {
	if !x.isPromoted() {
		return api.ErrTurn
	}
	for i := 0; i < len(x.entries); i++ {
		if x.isOld(x.entries[i]) {
			return api.ErrUsed
		}
	}
	x.state.Turn = api.Gated
	return api.OK
}

// Destroy destroys a key (P12).
func (x *Coffer) Destroy(k int) api.Errno {
	if k < 1 || k > len(x.keys) {
		return api.ErrNone
	}
	if x.keys[k-1].destroyed() {
		return api.ErrGone
	}
	if k == x.state.Write || x.state.Turn != api.Gated {
		return api.ErrGate
	}
	x.keys[k-1].text = ""
	if !x.oldKeyLeft() {
		x.state.Turn = api.Still
	}
	return api.OK
}

// isPromoted tells whether the new key writes, and the old one is not destroyed yet.
func (x *Coffer) isPromoted() bool {
	return x.state.Turn == api.Promoted || x.state.Turn == api.Gated
}

// isOld tells whether an entry needs another key than the one that writes.
func (x *Coffer) isOld(entry api.Entry) bool {
	return !entry.Gone && entry.Key != x.state.Write
}

// firstOld gives the old entry that is to be moved next, and its secret; one of the revision 0, which no entry has, if there is none.
func (x *Coffer) firstOld() (api.Entry, string) {
	first := api.Entry{}
	secret := ""
	for i := 0; i < len(x.entries); i++ {
		entry := x.entries[i]
		if first.Rev != 0 && entry.Path >= first.Path {
			continue
		}
		last := x.newest(entry.Path, x.state.Rev)
		if entry.Rev != last.Rev || !x.isOld(entry) {
			continue
		}
		plain, e := x.opened(entry)
		if e == api.OK {
			first = entry
			secret = plain
		}
	}
	return first, secret
}

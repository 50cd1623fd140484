package coffer

import "coffer/api"

// Get tells a secret, and its revision (P9).
func (x *Coffer) Get(s int, path string) (string, int, api.Errno) {
	e := x.mayRead(s)
	if e != api.OK {
		return "", 0, e
	}
	return x.read(s, path, x.state.Rev)
}

// GetAt tells a secret as it was at a revision (P9).
func (x *Coffer) GetAt(s int, path string, rev int) (string, int, api.Errno) {
	e := x.mayRead(s)
	if e != api.OK {
		return "", 0, e
	}
	if rev < x.state.Floor || rev > x.state.Rev {
		return "", 0, api.ErrRev
	}
	return x.read(s, path, rev)
}

// mayRead tells why a server can read nothing at all, or OK if it can.
func (x *Coffer) mayRead(s int) api.Errno {
	if !x.isServer(s) {
		return api.ErrServer
	}
	if x.servers[s].seen == 0 {
		return api.ErrBlind
	}
	return api.OK
}

// read tells a server the secret that a path had at a revision, and of which revision it is. A text that is no path needs no test of its own: no entry has it.
func (x *Coffer) read(s int, path string, rev int) (string, int, api.Errno) {
	entry := x.newest(path, rev)
	plain, e := x.openedFor(s, entry)
	if e != api.OK {
		return "", 0, e
	}
	return plain, entry.Rev, api.OK
}

// openedFor tells a server the secret of an entry, if it is one.
func (x *Coffer) openedFor(s int, entry api.Entry) (string, api.Errno) {
	if entry.Rev == 0 || entry.Gone {
		return "", api.ErrNone
	}
	by := x.key(entry.Key)
	if by.came > x.servers[s].seen {
		return "", api.ErrKey
	}
	return x.opened(entry)
}

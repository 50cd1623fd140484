package coffer

import "coffer/api"

// server is what a server has in mind.
type server struct {
	seen int // an epoch; 0: it knows no keys
	busy bool
	op   operation // the one under way, if it is busy
}

// Refresh lets a server learn the keys (P7).
func (x *Coffer) Refresh(s int) api.Errno {
	if !x.isServer(s) {
		return api.ErrServer
	}
	x.servers[s].seen = x.state.Epoch
	return api.OK
}

// Crash lets a server forget all (P7).
func (x *Coffer) Crash(s int) api.Errno {
	if !x.isServer(s) {
		return api.ErrServer
	}
	x.servers[s] = server{}
	return api.OK
}

func (x *Coffer) isServer(s int) bool { return s >= 0 && s < len(x.servers) }

// allHaveSeen tells whether all servers have seen the present epoch.
func (x *Coffer) allHaveSeen() bool {
	for i := 0; i < len(x.servers); i++ {
		if x.servers[i].seen < x.state.Epoch {
			return false
		}
	}
	return true
}

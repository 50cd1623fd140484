package coffer_test

import (
	"testing"

	"coffer/api"
)

func TestRefreshIsOfOneServer(t *testing.T) {
	x := blind(t, 3, 10)
	x.refresh(1, api.OK)
	x.get(0, "a", "", 0, api.ErrBlind)
	x.get(1, "a", "", 0, api.ErrNone)
	x.get(2, "a", "", 0, api.ErrBlind)
	x.state(api.State{Epoch: 1, Write: 1})
}

// A server that is refreshed keeps its operation.
func TestRefreshWhileBusy(t *testing.T) {
	x := awake(t, 1, 10)
	x.begin(0, put("a", "one", 0), api.OK)
	x.refresh(0, api.OK)
	x.refresh(0, api.OK)
	x.begin(0, put("a", "two", 0), api.ErrBusy)
	x.commit(0, 1, api.OK)
	x.get(0, "a", "one", 1, api.OK)
}

func TestCrashForgetsAll(t *testing.T) {
	x := awake(t, 2, 10)
	x.begin(0, put("a", "one", 0), api.OK)
	x.begin(1, put("a", "two", 0), api.OK)
	x.crash(0, api.OK)
	x.get(0, "a", "", 0, api.ErrBlind)
	x.getAt(0, "a", 0, "", 0, api.ErrBlind)
	x.commit(0, 0, api.ErrIdle)
	x.begin(0, put("a", "one", 0), api.ErrBlind)
	x.refresh(0, api.OK)
	x.commit(0, 0, api.ErrIdle)
	x.commit(1, 1, api.OK)
	// The draw of the operation that is gone is not made again.
	x.does(0, put("a", "three", 1), 2, api.OK)
	x.entries(secret("a", "two", 1, 2), secret("a", "three", 2, 3))
}

// What was committed outlasts the server; a server may crash that knows nothing.
func TestCrashLeavesEntries(t *testing.T) {
	x := awake(t, 2, 10)
	x.does(0, put("a", "one", 0), 1, api.OK)
	x.crash(0, api.OK)
	x.crash(0, api.OK)
	x.get(1, "a", "one", 1, api.OK)
	x.entries(secret("a", "one", 1, 1))
	x.refresh(0, api.OK)
	x.get(0, "a", "one", 1, api.OK)
}

// ErrServer stands first in every call, and such a call changes nothing.
func TestNoServer(t *testing.T) {
	for servers := 1; servers <= api.MaxServers; servers++ {
		x := awake(t, servers, 10)
		x.does(0, put("a", "one", 0), 1, api.OK)
		x.begin(0, put("a", "two", 1), api.OK)
		for _, s := range append([]int{servers}, noServers...) {
			x.refresh(s, api.ErrServer)
			x.crash(s, api.ErrServer)
			x.begin(s, put("a", "one", -1), api.ErrServer)
			x.begin(s, api.Op{}, api.ErrServer)
			x.commit(s, 0, api.ErrServer)
			x.get(s, "a", "", 0, api.ErrServer)
			x.get(s, "", "", 0, api.ErrServer)
			x.getAt(s, "a", 1, "", 0, api.ErrServer)
			x.getAt(s, "", -1, "", 0, api.ErrServer)
		}
		x.state(api.State{Rev: 1, Epoch: 1, Write: 1})
		x.entries(secret("a", "one", 1, 1))
		x.commit(0, 2, api.OK)
		x.entries(secret("a", "one", 1, 1), secret("a", "two", 2, 2))
	}
}

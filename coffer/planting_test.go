package coffer_test

import (
	"math"
	"slices"
	"strings"
	"testing"

	"coffer/api"
)

// Under its own path an old entry opens, and is the newest one again; its revision is a new one.
func TestPlantUnderItsOwnPath(t *testing.T) {
	x := awake(t, 1, 10)
	x.does(0, put("a", "one", 0), 1, api.OK)
	x.does(0, put("a", "two", 1), 2, api.OK)
	x.plant("a", 1, api.OK)
	x.state(api.State{Rev: 3, Epoch: 1, Write: 1})
	first, second := secret("a", "one", 1, 1), secret("a", "two", 2, 2)
	x.entries(first, second, planted(first, "a", 3))
	x.get(0, "a", "one", 3, api.OK)
	x.getAt(0, "a", 3, "one", 3, api.OK)
	x.getAt(0, "a", 2, "two", 2, api.OK)
	x.getAt(0, "a", 1, "one", 1, api.OK)
	// Who counts on the revision ahead of it is told.
	x.does(0, put("a", "three", 2), 0, api.ErrConflict)
	x.does(0, put("a", "three", 3), 4, api.OK)
	// No draw was made by Plant: the refused one made draw 3.
	x.entries(first, second, planted(first, "a", 3), secret("a", "three", 4, 4))
}

// Under another path it does not open, whatever servers ask for it; the one that was copied still does.
func TestPlantUnderAnotherPath(t *testing.T) {
	x := awake(t, 2, 10)
	x.does(0, put("a", "one", 0), 1, api.OK)
	for n, path := range []string{"b", "aa", "A", "a\x00", "\x00a", strings.Repeat("a", api.MaxPath)} {
		x.plant(path, 1, api.OK)
		list := x.Entries()
		if got, want := list[n+1], planted(secret("a", "one", 1, 1), path, n+2); got != want {
			t.Fatalf("P13: the planted entry is %+v, want %+v", got, want)
		}
		for s := range 2 {
			x.get(s, path, "", 0, api.ErrSealed)
			x.getAt(s, path, n+2, "", 0, api.ErrSealed)
			x.getAt(s, path, n+1, "", 0, api.ErrNone)
			x.get(s, "a", "one", 1, api.OK)
		}
	}
}

// An empty secret is sealed to its path as well.
func TestPlantEmptySecret(t *testing.T) {
	x := awake(t, 1, 10)
	x.does(0, put("a", "", 0), 1, api.OK)
	x.plant("b", 1, api.OK)
	x.get(0, "b", "", 0, api.ErrSealed)
	x.plant("a", 1, api.OK)
	x.get(0, "a", "", 3, api.OK)
}

// What does not open is not passed over for an older entry; at an older revision that one is told.
func TestPlantedHidesTheOlder(t *testing.T) {
	x := awake(t, 1, 10)
	x.does(0, put("a", "one", 0), 1, api.OK)
	x.does(0, put("b", "two", 0), 2, api.OK)
	x.plant("a", 2, api.OK)
	x.get(0, "a", "", 0, api.ErrSealed)
	x.getAt(0, "a", 3, "", 0, api.ErrSealed)
	x.getAt(0, "a", 2, "one", 1, api.OK)
	x.compact(3, api.OK)
	x.revs(2, 3)
	x.getAt(0, "a", 3, "", 0, api.ErrSealed)
	// It is there, though it does not open: it has a revision, it can be deleted and put anew.
	x.does(0, put("a", "three", 0), 0, api.ErrConflict)
	x.does(0, gone("a", 3), 4, api.OK)
	x.get(0, "a", "", 0, api.ErrNone)
	x.getAt(0, "a", 3, "", 0, api.ErrSealed)
	x.does(0, put("a", "three", 0), 5, api.OK)
	x.get(0, "a", "three", 5, api.OK)
}

// A copy can be planted in turn; back under its first path it opens.
func TestPlantACopy(t *testing.T) {
	x := awake(t, 1, 10)
	x.does(0, put("a", "one", 0), 1, api.OK)
	x.plant("b", 1, api.OK)
	x.does(0, gone("a", 1), 3, api.OK)
	x.compact(3, api.OK)
	x.revs(2)
	x.plant("a", 1, api.ErrNone)
	x.plant("a", 2, api.OK)
	x.entries(planted(secret("a", "one", 1, 1), "b", 2), planted(secret("a", "one", 1, 1), "a", 4))
	x.get(0, "a", "one", 4, api.OK)
	x.get(0, "b", "", 0, api.ErrSealed)
}

// The newest entry needs not be it, and a path that was deleted may have it.
func TestPlantOverADeletion(t *testing.T) {
	x := awake(t, 1, 10)
	x.does(0, put("a", "one", 0), 1, api.OK)
	x.does(0, gone("a", 1), 2, api.OK)
	x.plant("a", 1, api.OK)
	x.get(0, "a", "one", 3, api.OK)
	x.getAt(0, "a", 2, "", 0, api.ErrNone)
}

// No server is needed for it: none knows any keys here any more, and operations under way stay.
func TestPlantNeedsNoServer(t *testing.T) {
	x := awake(t, 2, 10)
	x.does(0, put("a", "one", 0), 1, api.OK)
	x.begin(1, put("a", "two", 1), api.OK)
	x.crash(0, api.OK)
	x.plant("b", 1, api.OK)
	x.begin(1, put("a", "two", 1), api.ErrBusy)
	x.commit(1, 3, api.OK)
	x.crash(1, api.OK)
	x.plant("a", 1, api.OK)
	x.get(0, "a", "", 0, api.ErrBlind)
	x.refresh(0, api.OK)
	x.get(0, "a", "one", 4, api.OK)
}

// noPlant looks that Plant refuses, and changes nothing.
func (x book) noPlant(path string, rev int, want api.Errno) {
	x.t.Helper()
	state, entries := x.State(), x.Entries()
	x.plant(path, rev, want)
	x.state(state)
	x.entries(entries...)
}

// noRevisions are numbers that no revision has, of the few that there are here.
var noRevisions = []int{0, -1, -2, 20, 256, 257, 1 << 32, 1<<32 + 1, -1 << 32, math.MaxInt, math.MinInt}

// The errors in their order: ErrOp, ErrNone, ErrFull.
func TestPlantOrderOfErrors(t *testing.T) {
	x := awake(t, 1, 3)
	refused := func(kept, given []int) {
		t.Helper()
		for _, path := range noPaths {
			for _, rev := range slices.Concat(noRevisions, kept, given) {
				x.noPlant(path, rev, api.ErrOp)
			}
		}
		for _, path := range []string{"a", "b", strings.Repeat("a", api.MaxPath)} {
			for _, rev := range slices.Concat(noRevisions, given) {
				x.noPlant(path, rev, api.ErrNone)
			}
		}
	}
	refused(nil, []int{1, 2, 3})
	x.does(0, put("a", "one", 0), 1, api.OK)
	refused([]int{1}, []int{2, 3})
	x.does(0, gone("a", 1), 2, api.OK)
	refused([]int{1}, []int{2, 3})
	x.does(0, put("b", "two", 0), 3, api.OK)
	// It is full from here on.
	refused([]int{1, 3}, []int{2, 4})
	x.noPlant("a", 1, api.ErrFull)
	x.noPlant("c", 3, api.ErrFull)
	x.compact(2, api.OK)
	refused([]int{3}, []int{1, 2, 4})
	x.plant("c", 3, api.OK)
	x.plant("d", 4, api.OK)
	x.noPlant("d", 4, api.ErrFull)
	x.noPlant("d", 1, api.ErrNone)
	x.noPlant("", 4, api.ErrOp)
	x.state(api.State{Rev: 5, Floor: 2, Epoch: 1, Write: 1})
}

// Room may be filled to the last, and no further.
func TestPlantFillsTheRoom(t *testing.T) {
	for _, room := range []int{1, 2, 7, api.MaxRoom} {
		x := awake(t, 1, room)
		x.does(0, put("a", "one", 0), 1, api.OK)
		for n := 2; n <= room; n++ {
			x.plant("a", n-1, api.OK)
			x.get(0, "a", "one", n, api.OK)
		}
		x.noPlant("a", room, api.ErrFull)
		x.does(0, put("b", "two", 0), 0, api.ErrFull)
	}
}

// Paths of every length that a path may have.
func TestPlantAllPaths(t *testing.T) {
	x := awake(t, 1, 60)
	x.does(0, put("\x00", "one", 0), 1, api.OK)
	for n := 1; n <= api.MaxPath; n++ {
		x.plant(counting(250+n, n), 1, api.OK)
		x.plant(strings.Repeat("\x00", n), 1, api.OK)
		x.get(0, counting(250+n, n), "", 0, api.ErrSealed)
	}
	x.get(0, "\x00", "one", 3, api.OK)
	x.get(0, "\x00\x00", "", 0, api.ErrSealed)
}

// Only where Turn is Gated does Plant change it; nothing else of the state but the revision changes.
func TestPlantAndTurn(t *testing.T) {
	x := awake(t, 1, 60)
	x.does(0, put("a", "one", 0), 1, api.OK)
	rev := 1
	plants := func(turn, after int) {
		t.Helper()
		x.turnIs(turn)
		want := x.State()
		for _, path := range noPaths {
			x.noPlant(path, rev, api.ErrOp)
		}
		x.noPlant("a", rev+1, api.ErrNone)
		x.plant("a", rev, api.OK)
		rev++
		want.Rev, want.Turn = rev, after
		x.state(want)
	}
	plants(api.Still, api.Still)
	x.stage(2, api.OK)
	plants(api.Staged, api.Staged)
	x.refresh(0, api.OK)
	x.promote(api.OK)
	plants(api.Promoted, api.Promoted)
	x.migrate(20, 1, api.OK)
	rev++
	x.compact(rev, api.OK)
	x.gate(api.OK)
	plants(api.Gated, api.Promoted)
	x.destroy(1, api.ErrGate)
	plants(api.Promoted, api.Promoted)
	x.gate(api.OK)
	plants(api.Gated, api.Promoted)
	x.gate(api.OK)
	x.destroy(1, api.OK)
	plants(api.Still, api.Still)
	x.get(0, "a", "one", rev, api.OK)
}

// What Plant refuses leaves the gate as it is, also for want of room.
func TestRefusedPlantLeavesTheGate(t *testing.T) {
	x := awake(t, 1, 2)
	x.does(0, put("a", "one", 0), 1, api.OK)
	x.turn(2, 1)
	x.migrate(20, 1, api.OK)
	x.compact(2, api.OK)
	x.refresh(0, api.OK)
	x.does(0, put("b", "two", 0), 3, api.OK)
	x.gate(api.OK)
	x.noPlant("c", 3, api.ErrFull)
	x.noPlant("c", 1, api.ErrNone)
	x.noPlant("", 3, api.ErrOp)
	x.destroy(1, api.OK)
	x.turnIs(api.Still)
}

// A copy keeps the key of what was copied: it holds the gate open until it is moved or given up.
func TestPlantedOldKey(t *testing.T) {
	x := awake(t, 1, 20)
	x.does(0, put("a", "one", 0), 1, api.OK)
	x.does(0, put("b", "two", 0), 2, api.OK)
	x.turn(2, 1)
	x.refresh(0, api.OK)
	x.migrate(20, 2, api.OK)
	// The old entry, over what was moved: it has key 1 again, and opens, so it is moved anew.
	x.plant("a", 1, api.OK)
	x.get(0, "a", "one", 5, api.OK)
	x.compact(5, api.OK)
	x.entries(sealedBy(2, "b", "two", 4, 4), planted(secret("a", "one", 1, 1), "a", 5))
	x.gate(api.ErrUsed)
	x.migrate(20, 1, api.OK)
	x.gate(api.ErrUsed)
	x.compact(6, api.OK)
	x.entries(sealedBy(2, "b", "two", 4, 4), sealedBy(2, "a", "one", 6, 5))
	x.gate(api.OK)
	x.destroy(1, api.OK)
}

// A path whose newest entry does not open is passed over: it takes no room, no draw and no revision.
func TestMigratePassesOverWhatDoesNotOpen(t *testing.T) {
	x := awake(t, 1, 7)
	for n, path := range []string{"a", "b", "c"} {
		x.does(0, put(path, path+"!", 0), n+1, api.OK)
	}
	x.plant("a", 2, api.OK) // the older entry of "a" would open
	x.plant("d", 3, api.OK)
	x.turn(2, 1)
	before := x.Entries()
	x.migrate(0, 0, api.OK)
	x.migrate(1, 1, api.OK)
	x.migrate(20, 1, api.OK)
	want := append(before, sealedBy(2, "b", "b!", 6, 4), sealedBy(2, "c", "c!", 7, 5))
	x.entries(want...)
	// The coffer is full by now, but there is nothing to move.
	x.migrate(20, 0, api.OK)
	x.compact(7, api.OK)
	x.entries(want[3:]...)
	x.migrate(20, 0, api.OK)
	x.gate(api.ErrUsed)
	x.destroy(1, api.ErrGate)
	x.get(0, "a", "", 0, api.ErrSealed)
	// Somebody must put or delete what does not open.
	x.refresh(0, api.OK)
	x.does(0, put("a", "new", 4), 8, api.OK)
	x.does(0, gone("d", 5), 9, api.OK)
	x.gate(api.ErrUsed)
	x.compact(9, api.OK)
	x.gate(api.OK)
	x.destroy(1, api.OK)
	x.entries(sealedBy(2, "b", "b!", 6, 4), sealedBy(2, "c", "c!", 7, 5), sealedBy(2, "a", "new", 8, 6))
}

// What has the key that writes is not moved, though it does not open, and does not hinder the gate.
func TestPlantedNewKey(t *testing.T) {
	x := awake(t, 1, 10)
	x.turn(2, 1)
	x.refresh(0, api.OK)
	x.does(0, put("a", "one", 0), 1, api.OK)
	x.plant("b", 1, api.OK)
	x.get(0, "b", "", 0, api.ErrSealed)
	x.migrate(20, 0, api.OK)
	x.gate(api.OK)
	x.destroy(1, api.OK)
	x.get(0, "b", "", 0, api.ErrSealed)
}

// P2: what was planted in one coffer is not in another, nor in a list that came out.
func TestPlantedApart(t *testing.T) {
	x, y := awake(t, 1, 10), awake(t, 1, 10)
	x.does(0, put("a", "one", 0), 1, api.OK)
	y.does(0, put("a", "one", 0), 1, api.OK)
	list := x.Entries()
	x.plant("b", 1, api.OK)
	y.plant("c", 2, api.ErrNone)
	y.entries(secret("a", "one", 1, 1))
	if !slices.Equal(list, []api.Entry{secret("a", "one", 1, 1)}) {
		t.Errorf("P2: a list became %+v", list)
	}
	spoil(list)
	spoil(x.Entries())
	x.plant("a", 1, api.OK)
	x.entries(secret("a", "one", 1, 1), planted(secret("a", "one", 1, 1), "b", 2), planted(secret("a", "one", 1, 1), "a", 3))
}

package coffer_test

import (
	"math"
	"slices"
	"strings"
	"testing"

	"coffer/api"
)

// The document's example 5, behind the calls of example 4.
func TestTurningExample(t *testing.T) {
	x := blind(t, 2, 10)
	x.refresh(0, api.OK)
	x.does(0, put("a", "one", 0), 1, api.OK)
	x.does(0, put("a", "two", 0), 0, api.ErrConflict)
	x.does(0, put("a", "two", 1), 2, api.OK)
	x.compact(2, api.OK)
	x.stage(2, api.OK)
	x.state(api.State{Rev: 2, Floor: 2, Epoch: 2, Write: 1, Turn: api.Staged})
	x.promote(api.ErrWait)
	x.refresh(0, api.OK)
	x.refresh(1, api.OK)
	x.begin(1, put("b", "x", -1), api.OK)
	x.promote(api.OK)
	x.state(api.State{Rev: 2, Floor: 2, Epoch: 3, Write: 2, Turn: api.Promoted})
	x.commit(1, 0, api.ErrStale)
	x.get(0, "a", "two", 2, api.OK)
	x.does(0, put("b", "y", -1), 0, api.ErrStale)
	x.refresh(0, api.OK)
	x.does(0, put("b", "y", -1), 3, api.OK)
	x.get(1, "b", "y", 3, api.OK)
	x.gate(api.ErrUsed)
	x.migrate(5, 1, api.OK)
	x.entries(secret("a", "two", 2, 3), sealedBy(2, "b", "y", 3, 6), sealedBy(2, "a", "two", 4, 7))
	x.gate(api.ErrUsed)
	x.compact(4, api.OK)
	x.gate(api.OK)
	x.state(api.State{Rev: 4, Floor: 4, Epoch: 3, Write: 2, Turn: api.Gated})
	x.destroy(2, api.ErrGate)
	x.destroy(1, api.OK)
	x.state(api.State{Rev: 4, Floor: 4, Epoch: 3, Write: 2, Turn: api.Still})
	x.begin(1, put("c", "z", -1), api.ErrGone)
	x.entries(sealedBy(2, "b", "y", 3, 6), sealedBy(2, "a", "two", 4, 7))
}

// A text that another program sealed with the second key, at draw 2.
func TestMigrateKnownSeal(t *testing.T) {
	x := awake(t, 1, 10)
	x.does(0, put("db/password", "hunter2", 0), 1, api.OK)
	x.turn(2, 1)
	x.migrate(1, 1, api.OK)
	want := api.Entry{Path: "db/password", Rev: 2, Key: 2, Draw: 2, Sealed: fromHex(t, "bb859993d657cb2c1ab73aa812a91f")}
	x.entries(secret("db/password", "hunter2", 1, 1), want)
}

// noKeys are texts that are no keys.
func noKeys() []string {
	list := []string{strings.Repeat("k", 256+api.KeyBytes), strings.Repeat("k", 1<<20)}
	for n := range 200 {
		if n != api.KeyBytes {
			list = append(list, counting(0, n))
		}
	}
	return list
}

// noStage looks that Stage refuses a text, and changes nothing.
func (x book) noStage(text string, want api.Errno) {
	x.t.Helper()
	state, entries := x.State(), x.Entries()
	if got, e := x.Stage(text); got != 0 || e != want {
		x.t.Fatalf("P11: Stage of %d bytes = %d, %d, want 0, %d", len(text), got, e, want)
	}
	x.state(state)
	x.entries(entries...)
}

func TestStageNoKey(t *testing.T) {
	x := awake(t, 1, 10)
	for _, text := range noKeys() {
		x.noStage(text, api.ErrArg)
	}
	// None of them came: the next key has the number 2.
	x.stage(2, api.OK)
	for _, text := range noKeys() {
		x.noStage(text, api.ErrArg)
	}
}

// A key may have any bytes, also those of a key that came earlier: it has a number of its own.
func TestStageAnyKey(t *testing.T) {
	for _, text := range []string{exampleKey, strings.Repeat("\x00", 48), strings.Repeat("\xff", 48)} {
		x := awake(t, 1, 10)
		x.does(0, put("a", "one", 0), 1, api.OK)
		if number, e := x.Stage(text); number != 2 || e != api.OK {
			t.Fatalf("P11: Stage(%x) = %d, %d", text, number, e)
		}
		x.refresh(0, api.OK)
		x.promote(api.OK)
		x.gate(api.ErrUsed)
		x.migrate(1, 1, api.OK)
		x.compact(2, api.OK)
		x.gate(api.OK)
		x.destroy(1, api.OK)
		x.get(0, "a", "one", 2, api.OK)
		if entry := x.Entries()[0]; entry.Key != 2 || entry.Draw != 2 {
			t.Errorf("P12: the entry is %+v, want key 2 and draw 2", entry)
		}
	}
}

// Stage changes nothing but Epoch and Turn; all goes on with the key that writes.
func TestStageShowsLittle(t *testing.T) {
	x := awake(t, 2, 10)
	x.does(0, put("a", "one", 0), 1, api.OK)
	x.begin(0, put("b", "two", 0), api.OK)
	x.stage(2, api.OK)
	x.state(api.State{Rev: 1, Epoch: 2, Write: 1, Turn: api.Staged})
	x.entries(secret("a", "one", 1, 1))
	x.get(0, "a", "one", 1, api.OK)
	// What began ahead of Stage is not stale by it, nor is what a server does that has not seen the new key.
	x.commit(0, 2, api.OK)
	x.does(1, put("c", "three", 0), 3, api.OK)
	x.refresh(1, api.OK)
	x.does(1, put("d", "four", 0), 4, api.OK)
	x.does(0, gone("a", 1), 5, api.OK)
	x.entries(secret("a", "one", 1, 1), secret("b", "two", 2, 2), secret("c", "three", 3, 3), secret("d", "four", 4, 4), deletion("a", 5))
}

// Each call has its time: what Turn must be for Stage, Promote, Migrate, Gate and Destroy.
func TestEachCallHasItsTime(t *testing.T) {
	x := awake(t, 1, 10)
	refused := func(turn int) {
		t.Helper()
		state, entries := x.State(), x.Entries()
		x.turnIs(turn)
		if turn != api.Still {
			x.noStage(keyText(6), api.ErrTurn)
		}
		if turn != api.Staged {
			x.promote(api.ErrTurn)
		}
		if turn == api.Still || turn == api.Staged {
			for n := range api.MaxMove + 1 {
				x.migrate(n, 0, api.ErrTurn)
			}
			x.gate(api.ErrTurn)
		}
		if turn != api.Gated {
			x.destroy(1, api.ErrGate)
		}
		x.state(state)
		x.entries(entries...)
	}
	refused(api.Still)
	x.does(0, put("a", "one", 0), 1, api.OK)
	refused(api.Still)
	x.stage(2, api.OK)
	refused(api.Staged)
	x.destroy(2, api.ErrGate)
	x.refresh(0, api.OK)
	refused(api.Staged)
	x.promote(api.OK)
	refused(api.Promoted)
	x.destroy(2, api.ErrGate)
	x.gate(api.ErrUsed)
	refused(api.Promoted)
	x.migrate(20, 1, api.OK)
	refused(api.Promoted)
	x.compact(2, api.OK)
	refused(api.Promoted)
	x.gate(api.OK)
	refused(api.Gated)
	x.destroy(1, api.OK)
	x.turnIs(api.Still)
	x.promote(api.ErrTurn)
	x.migrate(1, 0, api.ErrTurn)
	x.gate(api.ErrTurn)
	x.destroy(2, api.ErrGate)
	// No draw was made by what was refused.
	x.refresh(0, api.OK)
	x.does(0, put("b", "two", 0), 3, api.OK)
	x.entries(sealedBy(2, "a", "one", 2, 2), sealedBy(2, "b", "two", 3, 3))
}

// Promote waits for every server, also for one that never knew a key, and for one that forgot.
func TestPromoteWaits(t *testing.T) {
	for servers := 1; servers <= api.MaxServers; servers++ {
		for late := range servers {
			x := blind(t, servers, 10)
			for s := range servers {
				if s != late || s%2 == 0 {
					x.refresh(s, api.OK)
				}
			}
			x.stage(2, api.OK)
			for s := range servers {
				x.promote(api.ErrWait)
				if s != late {
					x.refresh(s, api.OK)
				}
			}
			x.promote(api.ErrWait)
			x.refresh(late, api.OK)
			x.crash(late, api.OK)
			x.promote(api.ErrWait)
			x.state(api.State{Epoch: 2, Write: 1, Turn: api.Staged})
			x.refresh(late, api.OK)
			x.promote(api.OK)
			x.state(api.State{Epoch: 3, Write: 2, Turn: api.Promoted})
			x.promote(api.ErrTurn)
		}
	}
}

// The errors of P11 in their order: ErrArg, ErrMany, ErrTurn; at most MaxKeys keys come, destroyed ones among them.
func TestAllKeys(t *testing.T) {
	x := awake(t, 1, 10)
	x.does(0, put("a", "one", 0), 1, api.OK)
	for k := 2; k <= api.MaxKeys; k++ {
		x.turn(k, 1)
		x.state(api.State{Rev: k - 1, Floor: floorAt(k), Epoch: 2*k - 1, Write: k, Turn: api.Promoted})
		x.get(0, "a", "one", k-1, api.OK)
		if k < api.MaxKeys {
			x.noStage(keyText(k+1), api.ErrTurn)
		} else {
			x.noStage(keyText(k+1), api.ErrMany)
		}
		x.noStage("", api.ErrArg)
		x.migrate(20, 1, api.OK)
		x.compact(k, api.OK)
		x.gate(api.OK)
		for old := 1; old < k-1; old++ {
			x.destroy(old, api.ErrGone)
		}
		x.destroy(k, api.ErrGate)
		x.destroy(k+1, api.ErrNone)
		x.destroy(k-1, api.OK)
		x.state(api.State{Rev: k, Floor: k, Epoch: 2*k - 1, Write: k, Turn: api.Still})
		x.entries(sealedBy(k, "a", "one", k, k))
		x.get(0, "a", "one", k, api.OK)
	}
	x.noStage(keyText(7), api.ErrMany)
	x.noStage(keyText(7)[1:], api.ErrArg)
}

// floorAt gives the floor that the turn to key k finds: the turn ahead of it has compacted.
func floorAt(k int) int {
	if k == 2 {
		return 0
	}
	return k - 1
}

// Operations of an epoch below that of the last Promote are stale; those of that epoch, and above it, are not.
func TestStale(t *testing.T) {
	x := awake(t, 4, 10)
	x.does(3, put("z", "last", 0), 1, api.OK)
	x.begin(0, put("a", "one", -1), api.OK)
	x.stage(2, api.OK)
	x.refresh(1, api.OK)
	x.begin(1, gone("z", -1), api.OK)
	for s := range 4 {
		x.refresh(s, api.OK)
	}
	x.promote(api.OK)
	x.begin(3, put("a", "four", -1), api.OK)
	x.refresh(2, api.OK)
	x.begin(2, put("a", "three", -1), api.OK)
	for _, s := range []int{0, 1, 3} {
		x.commit(s, 0, api.ErrStale)
		x.commit(s, 0, api.ErrIdle)
	}
	x.commit(2, 2, api.OK)
	// A server that was not refreshed begins, but is stale again; to be refreshed meanwhile does not help.
	x.does(0, put("a", "one", -1), 0, api.ErrStale)
	x.begin(1, gone("z", 1), api.OK)
	x.refresh(1, api.OK)
	x.commit(1, 0, api.ErrStale)
	x.does(1, gone("z", 1), 3, api.OK)
	x.migrate(1, 0, api.OK)
	x.compact(3, api.OK)
	x.gate(api.OK)
	x.destroy(1, api.OK)
	// The next key has come, and does not write yet: nothing is stale that has seen the last Promote.
	x.begin(2, put("b", "five", -1), api.OK)
	x.stage(3, api.OK)
	x.commit(2, 4, api.OK)
	x.refresh(1, api.OK)
	x.does(1, put("b", "six", -1), 5, api.OK)
	x.does(3, gone("a", -1), 0, api.ErrStale)
	x.entries(sealedBy(2, "a", "three", 2, 4), sealedBy(2, "b", "five", 4, 6), sealedBy(2, "b", "six", 5, 7))
}

// ErrStale stands ahead of ErrConflict, ErrNone and ErrFull.
func TestStaleStandsFirst(t *testing.T) {
	for _, op := range []api.Op{put("a", "x", 5), gone("b", -1), put("a", "x", -1), gone("a", 7)} {
		x := awake(t, 2, 1)
		x.begin(0, op, api.OK)
		x.turn(2, 2)
		x.refresh(1, api.OK)
		x.does(1, put("a", "one", 0), 1, api.OK)
		x.commit(0, 0, api.ErrStale)
	}
}

// A Put with a key that was destroyed does not begin; a Delete needs no key, but is stale.
func TestBeginWithDestroyedKey(t *testing.T) {
	x := awake(t, 2, 10)
	x.turn(2, 2)
	x.begin(0, put("a", "one", -1), api.OK)
	x.gate(api.OK)
	x.destroy(1, api.OK)
	// What was under way stays so, and is stale.
	x.begin(0, put("a", "one", -1), api.ErrBusy)
	x.commit(0, 0, api.ErrStale)
	x.begin(0, put("a", "one", -1), api.ErrGone)
	x.begin(0, put("a", "one", 5), api.ErrGone)
	x.commit(0, 0, api.ErrIdle)
	for _, op := range noOps() {
		x.begin(0, op, api.ErrOp)
	}
	x.begin(0, gone("a", -1), api.OK)
	x.begin(0, put("a", "one", -1), api.ErrBusy)
	x.commit(0, 0, api.ErrStale)
	x.crash(0, api.OK)
	x.begin(0, put("a", "one", -1), api.ErrBlind)
	x.refresh(0, api.OK)
	// What was refused made no draw.
	x.does(0, put("a", "one", -1), 1, api.OK)
	x.entries(sealedBy(2, "a", "one", 1, 2))
}

// A server reads with a key that it has seen come, also ahead of having seen it write.
func TestReadsWhileTurning(t *testing.T) {
	x := awake(t, 3, 20)
	x.does(0, put("a", "one", 0), 1, api.OK)
	x.turn(2, 3)
	x.crash(2, api.OK)
	x.refresh(0, api.OK)
	x.does(0, put("b", "two", 0), 2, api.OK)
	x.migrate(20, 1, api.OK)
	for s := range 2 {
		x.get(s, "a", "one", 3, api.OK)
		x.getAt(s, "a", 3, "one", 3, api.OK)
		x.getAt(s, "a", 2, "one", 1, api.OK)
		x.getAt(s, "a", 1, "one", 1, api.OK)
		x.getAt(s, "a", 0, "", 0, api.ErrNone)
		x.get(s, "b", "two", 2, api.OK)
	}
	x.get(2, "a", "", 0, api.ErrBlind)
	x.compact(3, api.OK)
	x.gate(api.OK)
	x.destroy(1, api.OK)
	x.refresh(2, api.OK)
	for s := range 3 {
		x.get(s, "a", "one", 3, api.OK)
		x.getAt(s, "b", 3, "two", 2, api.OK)
		x.getAt(s, "b", 2, "", 0, api.ErrRev)
	}
}

// Which epoch a server has seen does not matter to Migrate.
func TestMigrateNeedsNoServer(t *testing.T) {
	x := awake(t, 2, 10)
	x.does(0, put("a", "one", 0), 1, api.OK)
	x.turn(2, 2)
	x.crash(0, api.OK)
	x.crash(1, api.OK)
	x.migrate(20, 1, api.OK)
	x.entries(secret("a", "one", 1, 1), sealedBy(2, "a", "one", 2, 2))
}

// wrongMoves are numbers that Migrate refuses.
var wrongMoves = []int{-1, -2, 21, 22, 256, 257, 1 << 32, 1<<32 + 1, -1 << 32, math.MaxInt, math.MinInt}

func TestMigrateNoNumber(t *testing.T) {
	x := awake(t, 1, 10)
	x.does(0, put("a", "one", 0), 1, api.OK)
	refused := func() {
		t.Helper()
		state, entries := x.State(), x.Entries()
		for _, n := range wrongMoves {
			x.migrate(n, 0, api.ErrArg)
		}
		x.state(state)
		x.entries(entries...)
	}
	refused()
	x.stage(2, api.OK)
	refused()
	x.refresh(0, api.OK)
	x.promote(api.OK)
	refused()
	x.migrate(1, 1, api.OK)
	x.entries(secret("a", "one", 1, 1), sealedBy(2, "a", "one", 2, 2))
	x.compact(2, api.OK)
	x.gate(api.OK)
	refused()
}

// inOrder are paths as they are ordered.
var inOrder = []string{"\x00", "\x00\x00", "A", "a", "a\x00", "a\x00b", "aa", "aaa", "aaaaaaaaaaaaaaaa", "ab", "b", "\x7f", "\x80", "\xff", "\xff\x00", "\xff\xff"}

// Paths are moved in order, however they came, one by one or many at once.
func TestMigrateInOrder(t *testing.T) {
	for _, step := range []int{1, 2, 3, 7, 15, 16, 17, 20} {
		x := awake(t, 1, 60)
		for n := range inOrder {
			path := inOrder[(n*7+3)%len(inOrder)]
			x.does(0, put(path, path+"!", 0), n+1, api.OK)
		}
		want := x.Entries()
		x.turn(2, 1)
		x.migrate(0, 0, api.OK)
		x.entries(want...)
		for done := 0; done < len(inOrder); done += step {
			now := min(step, len(inOrder)-done)
			x.migrate(step, now, api.OK)
			for i := done; i < done+now; i++ {
				want = append(want, sealedBy(2, inOrder[i], inOrder[i]+"!", 17+i, 17+i))
			}
			x.entries(want...)
		}
		x.migrate(step, 0, api.OK)
		x.state(api.State{Rev: 32, Epoch: 3, Write: 2, Turn: api.Promoted})
		x.gate(api.ErrUsed)
		x.compact(32, api.OK)
		x.gate(api.OK)
	}
}

// At most n are moved, for every n.
func TestMigrateAtMost(t *testing.T) {
	for n := range api.MaxMove + 1 {
		x := awake(t, 1, 60)
		for i := range 30 {
			x.does(0, put(counting(i, 1), "x", 0), i+1, api.OK)
		}
		x.turn(2, 1)
		x.migrate(n, n, api.OK)
		x.state(api.State{Rev: 30 + n, Epoch: 3, Write: 2, Turn: api.Promoted})
		for i := range 30 {
			rev := i + 1
			if i < n {
				rev = 31 + i
			}
			x.get(0, counting(i, 1), "x", rev, api.OK)
		}
	}
}

// Secrets of all lengths come through.
func TestMigrateAllLengths(t *testing.T) {
	for n := 0; n <= api.MaxPlain; n++ {
		x := awake(t, 1, 2)
		path := counting(n, 1+n%api.MaxPath)
		x.does(0, put(path, counting(5*n, n), 0), 1, api.OK)
		x.turn(2, 1)
		x.migrate(20, 1, api.OK)
		x.entries(secret(path, counting(5*n, n), 1, 1), sealedBy(2, path, counting(5*n, n), 2, 2))
		x.get(0, path, counting(5*n, n), 2, api.OK)
	}
}

// Only the newest entry of a path is moved, and not if it is Gone, or has the key that writes.
func TestMigrateTheNewestAlone(t *testing.T) {
	x := awake(t, 1, 20)
	x.does(0, put("a", "one", 0), 1, api.OK)
	x.does(0, put("b", "two", 0), 2, api.OK)
	x.does(0, put("c", "three", 0), 3, api.OK)
	x.does(0, put("c", "four", 3), 4, api.OK)
	x.does(0, gone("a", 1), 5, api.OK)
	x.does(0, put("d", "five", 0), 6, api.OK)
	x.turn(2, 1)
	x.refresh(0, api.OK)
	x.does(0, put("b", "six", 2), 7, api.OK)
	x.does(0, gone("d", 6), 8, api.OK)
	before := x.Entries()
	x.migrate(20, 1, api.OK)
	x.entries(append(before, sealedBy(2, "c", "four", 9, 7))...)
	x.get(0, "a", "", 0, api.ErrNone)
	x.get(0, "b", "six", 7, api.OK)
	x.get(0, "d", "", 0, api.ErrNone)
	x.migrate(20, 0, api.OK)
}

// Room ends it; how many were moved is told, and those are kept.
func TestMigrateFull(t *testing.T) {
	for spare := range 6 {
		x := awake(t, 1, 5+spare)
		for n, path := range []string{"e", "c", "a", "d", "b"} {
			x.does(0, put(path, path, 0), n+1, api.OK)
		}
		want := x.Entries()
		x.turn(2, 1)
		x.migrate(0, 0, api.OK)
		if spare == 5 {
			x.migrate(20, 5, api.OK)
			x.migrate(20, 0, api.OK)
			continue
		}
		x.migrate(20, spare, api.ErrFull)
		for n, path := range []string{"a", "b", "c", "d"}[:spare] {
			want = append(want, sealedBy(2, path, path, 6+n, 6+n))
		}
		x.entries(want...)
		x.state(api.State{Rev: 5 + spare, Epoch: 3, Write: 2, Turn: api.Promoted})
		x.migrate(1, 0, api.ErrFull)
		x.migrate(0, 0, api.OK)
		x.gate(api.ErrUsed)
		x.entries(want...)
		if spare == 0 {
			continue
		}
		// What was moved makes room, and the rest goes on, without a draw or a revision left out.
		x.compact(5+spare, api.OK)
		next := []string{"a", "b", "c", "d", "e"}[spare]
		x.migrate(1, 1, api.OK)
		list := x.Entries()
		if got := list[len(list)-1]; got != sealedBy(2, next, next, 6+spare, 6+spare) {
			t.Errorf("P12: the next one that is moved is %+v, of %q", got, next)
		}
	}
}

// n moves that fill the last room are all there is to tell: nothing was refused.
func TestMigrateFillsTheRoom(t *testing.T) {
	x := awake(t, 1, 4)
	for n, path := range []string{"a", "b", "c"} {
		x.does(0, put(path, path, 0), n+1, api.OK)
	}
	x.turn(2, 1)
	x.migrate(1, 1, api.OK)
	x.migrate(1, 0, api.ErrFull)
	// A full coffer without anything to move is no fault.
	y := awake(t, 1, 1)
	y.turn(2, 1)
	y.refresh(0, api.OK)
	y.does(0, put("a", "one", 0), 1, api.OK)
	y.migrate(20, 0, api.OK)
	y.gate(api.OK)
	y.migrate(20, 0, api.OK)
	y.turnIs(api.Gated)
}

// A moved secret has a new revision: who counts on the old one is told.
func TestMigrateConflicts(t *testing.T) {
	x := awake(t, 2, 10)
	x.does(0, put("a", "one", 0), 1, api.OK)
	x.turn(2, 2)
	x.refresh(0, api.OK)
	x.refresh(1, api.OK)
	x.begin(0, put("a", "two", 1), api.OK)
	x.begin(1, gone("a", 1), api.OK)
	x.migrate(1, 1, api.OK)
	x.commit(0, 0, api.ErrConflict)
	x.commit(1, 0, api.ErrConflict)
	x.does(0, put("a", "two", 2), 3, api.OK)
	x.entries(secret("a", "one", 1, 1), sealedBy(2, "a", "one", 2, 3), sealedBy(2, "a", "two", 3, 4))
}

// Gate looks at all entries that are kept, not at the newest alone; what is Gone has no key.
func TestGateLooksAtAllEntries(t *testing.T) {
	x := awake(t, 1, 20)
	x.does(0, put("a", "one", 0), 1, api.OK)
	x.does(0, put("b", "two", 0), 2, api.OK)
	x.turn(2, 1)
	x.refresh(0, api.OK)
	x.does(0, gone("b", 2), 3, api.OK)
	x.migrate(20, 1, api.OK)
	x.gate(api.ErrUsed)
	x.compact(2, api.OK)
	x.gate(api.ErrUsed)
	x.compact(3, api.OK)
	x.revs(1, 4)
	x.gate(api.ErrUsed)
	x.state(api.State{Rev: 4, Floor: 3, Epoch: 3, Write: 2, Turn: api.Promoted})
	x.does(0, gone("a", 4), 5, api.OK)
	x.compact(4, api.OK)
	// A deletion is kept, and is no hindrance.
	x.entries(sealedBy(2, "a", "one", 4, 3), deletion("a", 5))
	x.gate(api.OK)
	x.destroy(1, api.OK)
	x.getAt(0, "a", 4, "one", 4, api.OK)
	x.get(0, "a", "", 0, api.ErrNone)
}

// Deletions alone, and nothing at all, let the gate close.
func TestGateWithoutSecrets(t *testing.T) {
	x := awake(t, 1, 10)
	x.turn(2, 1)
	x.gate(api.OK)
	x.gate(api.OK)
	x.turnIs(api.Gated)
	x.destroy(1, api.OK)
	y := awake(t, 1, 10)
	y.does(0, put("a", "one", 0), 1, api.OK)
	y.does(0, gone("a", 1), 2, api.OK)
	y.compact(1, api.OK)
	y.turn(2, 1)
	y.gate(api.ErrUsed)
	y.compact(2, api.OK)
	y.gate(api.OK)
}

// While the coffer is gated servers write on, with the new key, and the gate stays.
func TestGatedGoesOn(t *testing.T) {
	x := awake(t, 2, 10)
	x.does(0, put("a", "one", 0), 1, api.OK)
	x.begin(0, put("a", "old", -1), api.OK)
	x.turn(2, 2)
	x.migrate(20, 1, api.OK)
	x.compact(2, api.OK)
	x.gate(api.OK)
	x.refresh(1, api.OK)
	x.does(1, put("b", "two", 0), 3, api.OK)
	x.commit(0, 0, api.ErrStale)
	x.crash(0, api.OK)
	x.compact(3, api.OK)
	x.migrate(20, 0, api.OK)
	x.turnIs(api.Gated)
	x.gate(api.OK)
	x.destroy(1, api.OK)
	x.turnIs(api.Still)
	x.entries(sealedBy(2, "a", "one", 2, 3), sealedBy(2, "b", "two", 3, 4))
}

// noKeyNumbers are numbers that no key of two has.
var noKeyNumbers = []int{0, -1, -2, 3, 4, 6, 7, 256, 257, 258, 1 << 32, 1<<32 + 1, -1 << 32, math.MaxInt, math.MinInt}

// The errors of Destroy in their order, at each time: ErrNone, ErrGone, ErrGate.
func TestDestroyOrderOfErrors(t *testing.T) {
	x := awake(t, 1, 10)
	x.does(0, put("a", "one", 0), 1, api.OK)
	refused := func(first, second api.Errno) {
		t.Helper()
		state, entries := x.State(), x.Entries()
		for _, k := range noKeyNumbers {
			x.destroy(k, api.ErrNone)
		}
		if first != api.OK {
			x.destroy(1, first)
		}
		x.destroy(2, second)
		x.state(state)
		x.entries(entries...)
		x.get(0, "a", "one", state.Rev, api.OK)
	}
	refused(api.ErrGate, api.ErrNone)
	x.stage(2, api.OK)
	refused(api.ErrGate, api.ErrGate)
	x.refresh(0, api.OK)
	x.promote(api.OK)
	refused(api.ErrGate, api.ErrGate)
	x.migrate(20, 1, api.OK)
	x.compact(2, api.OK)
	refused(api.ErrGate, api.ErrGate)
	x.gate(api.OK)
	refused(api.OK, api.ErrGate)
	x.destroy(1, api.OK)
	refused(api.ErrGone, api.ErrGate)
	x.turn(3, 1)
	x.destroy(1, api.ErrGone)
	x.destroy(2, api.ErrGate)
	x.destroy(3, api.ErrGate)
	x.destroy(4, api.ErrNone)
}

// P2: the key of one coffer is turned, that of another one stays.
func TestTurnedApart(t *testing.T) {
	x, y := awake(t, 1, 10), awake(t, 1, 10)
	x.does(0, put("a", "one", 0), 1, api.OK)
	y.does(0, put("a", "two", 0), 1, api.OK)
	list := y.Entries()
	x.turn(2, 1)
	y.promote(api.ErrTurn)
	y.gate(api.ErrTurn)
	x.migrate(20, 1, api.OK)
	x.compact(2, api.OK)
	x.gate(api.OK)
	x.destroy(1, api.OK)
	y.destroy(2, api.ErrNone)
	y.state(api.State{Rev: 1, Epoch: 1, Write: 1})
	y.get(0, "a", "two", 1, api.OK)
	y.does(0, put("a", "three", 1), 2, api.OK)
	y.stage(2, api.OK)
	x.stage(3, api.OK)
	y.entries(secret("a", "two", 1, 1), secret("a", "three", 2, 2))
	if !slices.Equal(list, []api.Entry{secret("a", "two", 1, 1)}) {
		t.Errorf("P2: a list became %+v", list)
	}
}

// P2: what Migrate adds does not reach a list that came out, nor the other way round.
func TestMigrateLeavesLists(t *testing.T) {
	x := awake(t, 1, 10)
	for n, path := range []string{"a", "b", "c"} {
		x.does(0, put(path, path, 0), n+1, api.OK)
	}
	x.turn(2, 1)
	first := x.Entries()
	want := slices.Clone(first)
	x.migrate(1, 1, api.OK)
	if !slices.Equal(first, want) {
		t.Errorf("P2: a list became %+v, want %+v", first, want)
	}
	spoil(first)
	spoil(x.Entries())
	x.migrate(20, 2, api.OK)
	x.entries(append(want, sealedBy(2, "a", "a", 4, 4), sealedBy(2, "b", "b", 5, 5), sealedBy(2, "c", "c", 6, 6))...)
}

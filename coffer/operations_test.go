package coffer_test

import (
	"math"
	"strings"
	"testing"

	"coffer/api"
)

// noOps are operations that are none, each by one fault.
func noOps() []api.Op {
	list := []api.Op{{}, {Kind: api.Delete, Path: "a", Plain: "x", Rev: -1}, {Kind: api.Delete, Path: "a", Plain: "\x00", Rev: 0}, {Kind: api.Delete, Path: "a", Plain: strings.Repeat("x", 65), Rev: 0}}
	for _, kind := range []int{0, -1, 3, 4, 257, 258, 1<<32 + 1, math.MaxInt, math.MinInt} {
		list = append(list, api.Op{Kind: kind, Path: "a", Rev: -1})
	}
	for _, path := range noPaths {
		list = append(list, put(path, "x", -1), gone(path, -1))
	}
	for _, n := range []int{65, 66, 72, 256, 257, 320, 1 << 20} {
		list = append(list, put("a", strings.Repeat("x", n), -1))
	}
	for _, rev := range []int{-2, -3, -256, -1 << 32, math.MinInt} {
		list = append(list, put("a", "x", rev), gone("a", rev))
	}
	return list
}

func TestBeginNoOperation(t *testing.T) {
	x := awake(t, 1, 10)
	for _, op := range noOps() {
		x.begin(0, op, api.ErrOp)
		x.commit(0, 0, api.ErrIdle)
	}
	// Nothing was changed: no draw was made either.
	x.does(0, put("a", "one", 0), 1, api.OK)
	x.entries(secret("a", "one", 1, 1))
}

// ErrBusy stands ahead of ErrBlind, and that ahead of ErrOp.
func TestBeginOrderOfErrors(t *testing.T) {
	x := blind(t, 1, 10)
	for _, op := range append(noOps(), put("a", "one", 0)) {
		x.begin(0, op, api.ErrBlind)
	}
	x.refresh(0, api.OK)
	x.begin(0, put("a", "one", 0), api.OK)
	for _, op := range append(noOps(), put("a", "two", 0), gone("a", -1)) {
		x.begin(0, op, api.ErrBusy)
	}
	x.commit(0, 1, api.OK)
	x.does(0, put("a", "two", 1), 2, api.OK)
	x.entries(secret("a", "one", 1, 1), secret("a", "two", 2, 2))
}

// All lengths that a path and a secret may have, and any bytes.
func TestPutAllLengths(t *testing.T) {
	for p := 1; p <= api.MaxPath; p++ {
		for n := 0; n <= api.MaxPlain; n++ {
			x := awake(t, 1, 1)
			path, plain := counting(p+n, p), counting(3*n, n)
			x.does(0, put(path, plain, 0), 1, api.OK)
			x.entries(secret(path, plain, 1, 1))
			x.get(0, path, plain, 1, api.OK)
		}
	}
}

// Texts that another program sealed, with nonces of draws that need one, two and three bytes.
func TestPutKnownSeals(t *testing.T) {
	x := awake(t, 1, 10)
	known := []struct {
		draw                int
		path, plain, sealed string
	}{
		{2, "db/password", "", "726c0d7d870247f2"},
		{300, "0123456789abcdef", strings.Repeat("x", 64), "5e9eb3c54ad5ac52d9fa4537969b6de1897e9e21dd7396bd09a9c28fe656cd1542ec57df04d7e6b52481ac2e778098a1d8b4b15e35f678133ef36edc304aaef5628c6398adb9241c"},
		{65537, "\x00", "\xff", "5c7e3b4eacc1cd9ace"},
	}
	draws := 0
	for i, c := range known {
		for ; draws < c.draw-1; draws++ {
			x.begin(0, put("a", "", 0), api.OK)
			x.crash(0, api.OK)
			x.refresh(0, api.OK)
		}
		x.does(0, put(c.path, c.plain, 0), i+1, api.OK)
		draws++
		want := api.Entry{Path: c.path, Rev: i + 1, Key: 1, Draw: c.draw, Sealed: fromHex(t, c.sealed)}
		if got := x.Entries()[i]; got != want {
			t.Errorf("P8: the entry is %+v, want %+v", got, want)
		}
		x.get(0, c.path, c.plain, i+1, api.OK)
	}
}

// Draws are numbered as operations begin, not as they are committed; a Delete makes none.
func TestDrawsAreMadeAtBegin(t *testing.T) {
	x := awake(t, 3, 10)
	x.does(0, put("z", "", 0), 1, api.OK)
	x.begin(2, put("c", "three", 0), api.OK)
	x.begin(0, gone("z", 1), api.OK)
	x.begin(1, put("b", "two", 0), api.OK)
	x.commit(1, 2, api.OK)
	x.commit(0, 3, api.OK)
	x.commit(2, 4, api.OK)
	x.entries(secret("z", "", 1, 1), secret("b", "two", 2, 3), deletion("z", 3), secret("c", "three", 4, 2))
}

// Begin shows nothing; each server has its own operation.
func TestBeginShowsNothing(t *testing.T) {
	x := awake(t, 2, 10)
	x.begin(0, put("a", "one", 0), api.OK)
	x.begin(1, put("a", "two", 0), api.OK)
	x.state(api.State{Epoch: 1, Write: 1})
	x.entries()
	x.get(0, "a", "", 0, api.ErrNone)
	x.commit(1, 1, api.OK)
	x.get(0, "a", "two", 1, api.OK)
	x.commit(0, 0, api.ErrConflict)
	x.get(0, "a", "two", 1, api.OK)
	x.entries(secret("a", "two", 1, 2))
}

// The revision is looked at when an operation is committed, not when it begins.
func TestRevisionAtCommit(t *testing.T) {
	x := awake(t, 2, 10)
	x.begin(0, put("a", "two", 1), api.OK)
	x.begin(1, put("a", "one", 0), api.OK)
	x.commit(1, 1, api.OK)
	x.commit(0, 2, api.OK)
	x.begin(0, gone("b", 3), api.OK)
	x.begin(1, put("b", "three", -1), api.OK)
	x.commit(1, 3, api.OK)
	x.commit(0, 4, api.OK)
	x.entries(secret("a", "one", 1, 2), secret("a", "two", 2, 1), secret("b", "three", 3, 3), deletion("b", 4))
}

// A path's revision is that of its own newest entry; other paths do not count, also those that begin alike.
func TestConflict(t *testing.T) {
	x := awake(t, 1, 20)
	x.does(0, put("a", "one", 0), 1, api.OK)
	x.does(0, put("ab", "two", 0), 2, api.OK)
	x.does(0, put("a", "three", 1), 3, api.OK)
	for _, rev := range []int{0, 1, 2, 4, math.MaxInt} {
		x.does(0, put("a", "x", rev), 0, api.ErrConflict)
		x.does(0, gone("a", rev), 0, api.ErrConflict)
	}
	for _, rev := range []int{0, 1, 3} {
		x.does(0, put("ab", "x", rev), 0, api.ErrConflict)
	}
	for _, rev := range []int{1, 2, 3} {
		x.does(0, put("b", "x", rev), 0, api.ErrConflict)
		x.does(0, gone("b", rev), 0, api.ErrConflict)
	}
	x.revs(1, 2, 3)
	x.does(0, put("ab", "four", 2), 4, api.OK)
	x.does(0, put("a", "five", 3), 5, api.OK)
	x.does(0, put("a", "six", -1), 6, api.OK)
	x.does(0, put("b", "seven", -1), 7, api.OK)
	x.get(0, "a", "six", 6, api.OK)
	x.get(0, "ab", "four", 4, api.OK)
	x.get(0, "b", "seven", 7, api.OK)
}

// A path whose secret was deleted has the revision 0 again.
func TestDelete(t *testing.T) {
	x := awake(t, 1, 20)
	x.does(0, gone("a", 0), 0, api.ErrNone)
	x.does(0, gone("a", -1), 0, api.ErrNone)
	x.does(0, put("a", "one", 0), 1, api.OK)
	x.does(0, gone("a", 1), 2, api.OK)
	x.get(0, "a", "", 0, api.ErrNone)
	x.does(0, gone("a", 2), 0, api.ErrConflict)
	x.does(0, gone("a", 0), 0, api.ErrNone)
	x.does(0, gone("a", -1), 0, api.ErrNone)
	x.does(0, put("a", "two", 2), 0, api.ErrConflict)
	x.does(0, put("a", "two", 0), 3, api.OK)
	x.does(0, gone("a", -1), 4, api.OK)
	x.entries(secret("a", "one", 1, 1), deletion("a", 2), secret("a", "two", 3, 3), deletion("a", 4))
	x.state(api.State{Rev: 4, Epoch: 1, Write: 1})
}

// Whatever Commit answers, the operation is under way no more.
func TestCommitEndsTheOperation(t *testing.T) {
	x := awake(t, 1, 1)
	x.commit(0, 0, api.ErrIdle)
	x.does(0, put("a", "one", 0), 1, api.OK)
	x.commit(0, 0, api.ErrIdle)
	x.does(0, put("a", "two", 0), 0, api.ErrConflict)
	x.commit(0, 0, api.ErrIdle)
	x.does(0, gone("b", 0), 0, api.ErrNone)
	x.commit(0, 0, api.ErrIdle)
	x.does(0, put("a", "two", 1), 0, api.ErrFull)
	x.commit(0, 0, api.ErrIdle)
	x.state(api.State{Rev: 1, Epoch: 1, Write: 1})
	x.entries(secret("a", "one", 1, 1))
	// It still knows the keys.
	x.get(0, "a", "one", 1, api.OK)
}

// There is room for just as many entries as was said, deletions among them; ErrConflict and ErrNone stand ahead of ErrFull.
func TestRoom(t *testing.T) {
	for room := 1; room <= api.MaxRoom; room++ {
		x := awake(t, 1, room)
		for n := range room {
			op := put("a", "x", -1)
			if n%3 == 2 {
				op = gone("a", n)
			}
			x.does(0, op, n+1, api.OK)
		}
		x.does(0, put("b", "x", 0), 0, api.ErrFull)
		x.does(0, put("a", "x", -1), 0, api.ErrFull)
		x.does(0, put("b", "x", 1), 0, api.ErrConflict)
		x.does(0, gone("b", -1), 0, api.ErrNone)
		if room%3 != 0 {
			x.does(0, gone("a", room), 0, api.ErrFull)
		}
		x.state(api.State{Rev: room, Epoch: 1, Write: 1})
		if n := len(x.Entries()); n != room {
			t.Fatalf("P8: %d entries are kept, want %d", n, room)
		}
	}
}

// Room that Compact makes is used again; revisions go on.
func TestRoomAgain(t *testing.T) {
	x := awake(t, 1, 2)
	x.does(0, put("a", "x", 0), 1, api.OK)
	for rev := 2; rev < 200; rev++ {
		x.does(0, put("a", "x", rev-1), rev, api.OK)
		x.does(0, put("a", "x", rev), 0, api.ErrFull)
		x.compact(rev, api.OK)
		x.entries(secret("a", "x", rev, 2*rev-2))
	}
}

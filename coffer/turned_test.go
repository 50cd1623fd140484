package coffer

import (
	"strings"
	"testing"

	"coffer/api"
	"coffer/seal"
)

// These tests lay keys, epochs and entries into the coffer by hand, or look at what it keeps: they are about what the calls never bring about, or never show.

func textOfKey(number int) string { return strings.Repeat(string(rune('0'+number)), api.KeyBytes) }

// arrive lets a key come, which does not write yet, though Turn may not be Still.
func arrive(x *Coffer) {
	x.state.Turn = api.Still
	x.Stage(textOfKey(len(x.keys) + 1))
}

// takeOver lets the newest key write, though servers may not have seen it.
func takeOver(x *Coffer) {
	x.state.Epoch++
	x.state.Turn = api.Promoted
	x.takeOver()
}

func destroy(x *Coffer, number int) { x.keys[number-1].text = "" }

func newCoffer(t *testing.T, servers int) *Coffer {
	t.Helper()
	x, e := New(api.Config{Servers: servers, Room: 10, Key: textOfKey(1)})
	if e != api.OK {
		t.Fatalf("P6: New = %d", e)
	}
	return x
}

func begins(t *testing.T, x *Coffer, s int, op api.Op, want api.Errno) {
	t.Helper()
	if e := x.Begin(s, op); e != want {
		t.Fatalf("P8: Begin(%d, %+v) = %d, want %d", s, op, e, want)
	}
}

func commits(t *testing.T, x *Coffer, s, rev int, want api.Errno) {
	t.Helper()
	if got, e := x.Commit(s); got != rev || e != want {
		t.Fatalf("P8: Commit(%d) = %d, %d, want %d, %d", s, got, e, rev, want)
	}
}

// reads looks at what both Get, and GetAt with the last revision, answer.
func reads(t *testing.T, x *Coffer, s int, path, plain string, rev int, want api.Errno) {
	t.Helper()
	if p, r, e := x.Get(s, path); p != plain || r != rev || e != want {
		t.Fatalf("P9: Get(%d, %q) = %q, %d, %d, want %q, %d, %d", s, path, p, r, e, plain, rev, want)
	}
	if p, r, e := x.GetAt(s, path, x.state.Rev); p != plain || r != rev || e != want {
		t.Fatalf("P9: GetAt(%d, %q, %d) = %q, %d, %d, want %q, %d, %d", s, path, x.state.Rev, p, r, e, plain, rev, want)
	}
}

func put(path, plain string) api.Op {
	return api.Op{Kind: api.Put, Path: path, Plain: plain, Rev: -1}
}

// sealedBy gives what an entry should have as Sealed.
func sealedBy(number, draw int, path, plain string) string {
	nonce := string([]byte{byte(draw)}) + strings.Repeat("\x00", api.NonceBytes-1)
	text, _ := seal.Seal(textOfKey(number), nonce, path, plain)
	return text
}

// A server seals with the key that wrote when the epoch came that it has seen, though another one may write now.
func TestSealsWithTheKeyThatItHasSeen(t *testing.T) {
	x := newCoffer(t, 4)
	x.Refresh(0) // epoch 1: key 1 writes
	arrive(x)
	x.Refresh(1) // epoch 2: key 2 has come, key 1 writes
	takeOver(x)
	x.Refresh(2) // epoch 3: key 2 writes
	arrive(x)
	x.Refresh(3) // epoch 4: key 3 has come, key 2 writes
	for s, want := range []int{1, 1, 2, 2} {
		begins(t, x, s, put("a", "one"), api.OK)
		got := x.servers[s].op
		entry := api.Entry{Path: "a", Key: want, Draw: s + 1, Sealed: sealedBy(want, s+1, "a", "one")}
		if got.entry != entry || got.epoch != s+1 {
			t.Errorf("P8: server %d has %+v under way, want %+v", s, got, entry)
		}
	}
}

// A server reads with every key that came with an epoch that it has seen, though that key did not write yet.
func TestReadsWithKeysThatItKnows(t *testing.T) {
	x := newCoffer(t, 4)
	x.Refresh(0)
	begins(t, x, 0, put("a", "one"), api.OK)
	commits(t, x, 0, 1, api.OK)
	arrive(x)
	x.Refresh(1)
	takeOver(x)
	x.Refresh(2)
	begins(t, x, 2, put("b", "two"), api.OK)
	commits(t, x, 2, 2, api.OK)
	for s := range 3 {
		reads(t, x, s, "a", "one", 1, api.OK)
	}
	reads(t, x, 0, "b", "", 0, api.ErrKey)
	reads(t, x, 1, "b", "two", 2, api.OK)
	reads(t, x, 2, "b", "two", 2, api.OK)
	reads(t, x, 3, "b", "", 0, api.ErrBlind)
	reads(t, x, 0, "c", "", 0, api.ErrNone)
}

// Of several errors of one entry ErrKey is told first, then ErrGone, then ErrSealed.
func TestReadOrderOfErrors(t *testing.T) {
	x := newCoffer(t, 2)
	x.Refresh(0)
	arrive(x)
	takeOver(x)
	x.Refresh(1)
	begins(t, x, 1, put("a", "one"), api.OK)
	commits(t, x, 1, 1, api.OK)
	x.entries[0].Sealed = strings.Repeat("\x00", len(x.entries[0].Sealed))
	reads(t, x, 0, "a", "", 0, api.ErrKey)
	reads(t, x, 1, "a", "", 0, api.ErrSealed)
	destroy(x, 2)
	reads(t, x, 0, "a", "", 0, api.ErrKey)
	reads(t, x, 1, "a", "", 0, api.ErrGone)
	// What is deleted needs no key.
	x.entries[0] = api.Entry{Path: "a", Rev: 1, Gone: true}
	reads(t, x, 0, "a", "", 0, api.ErrNone)
}

// An entry does not open if its sealed text, draw, key or path is another.
func TestReadChangedEntry(t *testing.T) {
	x := newCoffer(t, 1)
	arrive(x)
	x.Refresh(0)
	begins(t, x, 0, put("a", "one"), api.OK)
	commits(t, x, 0, 1, api.OK)
	right := x.entries[0]
	changed := func(path, sealed string, number, draw int) {
		t.Helper()
		x.entries[0] = api.Entry{Path: path, Rev: 1, Key: number, Draw: draw, Sealed: sealed}
		reads(t, x, 0, path, "", 0, api.ErrSealed)
		x.entries[0] = right
		reads(t, x, 0, "a", "one", 1, api.OK)
	}
	changed("b", right.Sealed, 1, 1)
	changed("aa", right.Sealed, 1, 1)
	changed("a", right.Sealed, 2, 1)
	changed("a", right.Sealed, 1, 2)
	changed("a", right.Sealed, 1, 257)
	changed("a", right.Sealed[1:], 1, 1)
	changed("a", right.Sealed+"\x00", 1, 1)
	changed("a", "", 1, 1)
	changed("a", strings.Repeat("\x00", 7), 1, 1)
	changed("a", strings.Repeat("\x00", 73), 1, 1)
	for i := range right.Sealed {
		b := []byte(right.Sealed)
		b[i] ^= 0x80
		changed("a", string(b), 1, 1)
	}
}

// Nothing of a Put's secret is kept in the open while it is under way, and nothing of it when it is over.
func TestUnderWayIsSealed(t *testing.T) {
	x := newCoffer(t, 1)
	x.Refresh(0)
	begins(t, x, 0, put("a", "one"), api.OK)
	want := operation{epoch: 1, rev: -1, entry: api.Entry{Path: "a", Key: 1, Draw: 1, Sealed: sealedBy(1, 1, "a", "one")}}
	if x.servers[0].op != want {
		t.Errorf("P8: %+v is under way, want %+v", x.servers[0].op, want)
	}
	commits(t, x, 0, 1, api.OK)
	if x.servers[0] != (server{seen: 1}) {
		t.Errorf("P8: the server is left with %+v", x.servers[0])
	}
}

// turned gives a coffer whose second key writes, with secrets of the paths under the first.
func turned(t *testing.T, room int, paths ...string) *Coffer {
	t.Helper()
	x := newCoffer(t, 1)
	x.room = room
	x.Refresh(0)
	for i, path := range paths {
		begins(t, x, 0, put(path, path+"!"), api.OK)
		commits(t, x, 0, i+1, api.OK)
	}
	if number, e := x.Stage(textOfKey(2)); number != 2 || e != api.OK {
		t.Fatalf("P11: Stage = %d, %d", number, e)
	}
	x.Refresh(0)
	if e := x.Promote(); e != api.OK {
		t.Fatalf("P11: Promote = %d", e)
	}
	return x
}

func migrates(t *testing.T, x *Coffer, n, moved int, want api.Errno) {
	t.Helper()
	if got, e := x.Migrate(n); got != moved || e != want {
		t.Fatalf("P12: Migrate(%d) = %d, %d, want %d, %d", n, got, e, moved, want)
	}
}

// What is under a key that was destroyed does not open either.
func TestMigratePassesOverDestroyedKeys(t *testing.T) {
	x := turned(t, 10, "a", "b")
	destroy(x, 1)
	migrates(t, x, 20, 0, api.OK)
	if len(x.entries) != 2 || x.draws != 2 {
		t.Errorf("P12: %d entries and %d draws, want 2 of each", len(x.entries), x.draws)
	}
}

// Secrets under several old keys are moved in the order of their paths; the turn is over when all old keys are destroyed, in whatever order.
func TestSeveralOldKeys(t *testing.T) {
	for _, order := range [][]int{{1, 2}, {2, 1}} {
		x := turned(t, 10, "b")
		x.Refresh(0)
		begins(t, x, 0, put("a", "a!"), api.OK)
		commits(t, x, 0, 2, api.OK)
		arrive(x)
		takeOver(x)
		migrates(t, x, 20, 2, api.OK)
		if x.entries[2].Path != "a" || x.entries[3].Path != "b" || x.entries[2].Key != 3 || x.entries[3].Key != 3 {
			t.Errorf("P12: the entries are %+v", x.entries)
		}
		if e := x.Compact(4); e != api.OK {
			t.Fatalf("P10: Compact = %d", e)
		}
		if e := x.Gate(); e != api.OK {
			t.Fatalf("P12: Gate = %d", e)
		}
		for i, k := range order {
			if e := x.Destroy(k); e != api.OK {
				t.Errorf("P12: Destroy(%d) = %d", k, e)
			}
			if want := []int{api.Gated, api.Still}[i]; x.state.Turn != want {
				t.Errorf("P12: Turn is %d, want %d", x.state.Turn, want)
			}
		}
	}
}

// Of a key that was destroyed nothing is left; the others stay.
func TestNothingIsLeftOfADestroyedKey(t *testing.T) {
	x := turned(t, 10)
	if e := x.Gate(); e != api.OK {
		t.Fatalf("P12: Gate = %d", e)
	}
	if e := x.Destroy(1); e != api.OK {
		t.Fatalf("P12: Destroy(1) = %d", e)
	}
	if x.keys[0].text != "" || x.keys[1].text != textOfKey(2) {
		t.Errorf("P12: the keys are %+v", x.keys)
	}
}

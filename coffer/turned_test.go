package coffer

import (
	"strings"
	"testing"

	"coffer/api"
	"coffer/seal"
)

// These tests lay keys, epochs and entries into the coffer by hand: they look at what P8 and P9 say of several keys.

func textOfKey(number int) string { return strings.Repeat(string(rune('0'+number)), api.KeyBytes) }

// arrive lets a key come, which does not write yet.
func arrive(x *Coffer) {
	x.state.Epoch++
	x.keys = append(x.keys, key{text: textOfKey(len(x.keys) + 1), came: x.state.Epoch})
}

// takeOver lets the newest key write.
func takeOver(x *Coffer) {
	x.state.Epoch++
	x.state.Write = len(x.keys)
	x.keys[len(x.keys)-1].wrote = x.state.Epoch
}

func destroy(x *Coffer, number int) { x.keys[number-1].text = "" }

func newCoffer(t *testing.T, servers int) *Coffer {
	t.Helper()
	x, e := New(api.Config{Servers: servers, Room: 10, Key: textOfKey(1)})
	if e != api.OK {
		t.Fatalf("P6: New = %d", e)
	}
	return x
}

func begins(t *testing.T, x *Coffer, s int, op api.Op, want api.Errno) {
	t.Helper()
	if e := x.Begin(s, op); e != want {
		t.Fatalf("P8: Begin(%d, %+v) = %d, want %d", s, op, e, want)
	}
}

func commits(t *testing.T, x *Coffer, s, rev int, want api.Errno) {
	t.Helper()
	if got, e := x.Commit(s); got != rev || e != want {
		t.Fatalf("P8: Commit(%d) = %d, %d, want %d, %d", s, got, e, rev, want)
	}
}

// reads looks at what both Get, and GetAt with the last revision, answer.
func reads(t *testing.T, x *Coffer, s int, path, plain string, rev int, want api.Errno) {
	t.Helper()
	if p, r, e := x.Get(s, path); p != plain || r != rev || e != want {
		t.Fatalf("P9: Get(%d, %q) = %q, %d, %d, want %q, %d, %d", s, path, p, r, e, plain, rev, want)
	}
	if p, r, e := x.GetAt(s, path, x.state.Rev); p != plain || r != rev || e != want {
		t.Fatalf("P9: GetAt(%d, %q, %d) = %q, %d, %d, want %q, %d, %d", s, path, x.state.Rev, p, r, e, plain, rev, want)
	}
}

func put(path, plain string) api.Op {
	return api.Op{Kind: api.Put, Path: path, Plain: plain, Rev: -1}
}

// sealedBy gives what an entry should have as Sealed.
func sealedBy(number, draw int, path, plain string) string {
	nonce := string([]byte{byte(draw)}) + strings.Repeat("\x00", api.NonceBytes-1)
	text, _ := seal.Seal(textOfKey(number), nonce, path, plain)
	return text
}

// A server seals with the key that wrote when the epoch came that it has seen, though another one may write now.
func TestSealsWithTheKeyThatItHasSeen(t *testing.T) {
	x := newCoffer(t, 4)
	x.Refresh(0) // epoch 1: key 1 writes
	arrive(x)
	x.Refresh(1) // epoch 2: key 2 has come, key 1 writes
	takeOver(x)
	x.Refresh(2) // epoch 3: key 2 writes
	arrive(x)
	x.Refresh(3) // epoch 4: key 3 has come, key 2 writes
	for s, want := range []int{1, 1, 2, 2} {
		begins(t, x, s, put("a", "one"), api.OK)
		got := x.servers[s].op
		entry := api.Entry{Path: "a", Key: want, Draw: s + 1, Sealed: sealedBy(want, s+1, "a", "one")}
		if got.entry != entry || got.epoch != s+1 {
			t.Errorf("P8: server %d has %+v under way, want %+v", s, got, entry)
		}
	}
}

// Operations of an epoch below that of the last Promote are stale; those of that epoch, and above it, are not.
func TestStale(t *testing.T) {
	x := newCoffer(t, 4)
	x.Refresh(0)
	begins(t, x, 0, put("a", "one"), api.OK)
	arrive(x)
	x.Refresh(1)
	begins(t, x, 1, api.Op{Kind: api.Delete, Path: "a", Rev: 7}, api.OK)
	takeOver(x)
	x.Refresh(2)
	begins(t, x, 2, put("c", "three"), api.OK)
	arrive(x)
	x.Refresh(3)
	begins(t, x, 3, put("d", "four"), api.OK)
	commits(t, x, 0, 0, api.ErrStale)
	commits(t, x, 0, 0, api.ErrIdle)
	commits(t, x, 1, 0, api.ErrStale)
	commits(t, x, 1, 0, api.ErrIdle)
	commits(t, x, 2, 1, api.OK)
	commits(t, x, 3, 2, api.OK)
	// A server that was not refreshed begins, but is stale again.
	begins(t, x, 0, put("a", "one"), api.OK)
	commits(t, x, 0, 0, api.ErrStale)
	// To be refreshed while it is under way does not help: the operation is of the epoch that was seen at its beginning.
	begins(t, x, 1, put("a", "one"), api.OK)
	x.Refresh(1)
	commits(t, x, 1, 0, api.ErrStale)
	begins(t, x, 1, put("a", "one"), api.OK)
	commits(t, x, 1, 3, api.OK)
}

// A key that has only come makes nothing stale.
func TestNotStaleYet(t *testing.T) {
	x := newCoffer(t, 1)
	x.Refresh(0)
	begins(t, x, 0, put("a", "one"), api.OK)
	arrive(x)
	commits(t, x, 0, 1, api.OK)
	want := api.Entry{Path: "a", Rev: 1, Key: 1, Draw: 1, Sealed: sealedBy(1, 1, "a", "one")}
	if x.entries[0] != want {
		t.Errorf("P8: the entry is %+v, want %+v", x.entries[0], want)
	}
}

// ErrStale stands ahead of ErrConflict, ErrNone and ErrFull.
func TestStaleStandsFirst(t *testing.T) {
	for _, op := range []api.Op{{Kind: api.Put, Path: "a", Rev: 5}, {Kind: api.Delete, Path: "b", Rev: -1}, put("a", "")} {
		x := newCoffer(t, 2)
		x.room = 1
		x.Refresh(0)
		begins(t, x, 0, op, api.OK)
		arrive(x)
		takeOver(x)
		x.Refresh(1)
		begins(t, x, 1, put("a", "one"), api.OK)
		commits(t, x, 1, 1, api.OK)
		commits(t, x, 0, 0, api.ErrStale)
	}
}

// A Put with a key that was destroyed does not begin; a Delete needs no key.
func TestBeginWithDestroyedKey(t *testing.T) {
	x := newCoffer(t, 2)
	x.Refresh(0)
	arrive(x)
	takeOver(x)
	x.Refresh(1)
	destroy(x, 1)
	begins(t, x, 0, put("a", "one"), api.ErrGone)
	commits(t, x, 0, 0, api.ErrIdle)
	begins(t, x, 0, put("", "one"), api.ErrOp)
	begins(t, x, 0, api.Op{Kind: api.Delete, Path: "a", Rev: -1}, api.OK)
	begins(t, x, 0, put("a", "one"), api.ErrBusy)
	commits(t, x, 0, 0, api.ErrStale)
	// No draw was made for it.
	begins(t, x, 1, put("a", "one"), api.OK)
	commits(t, x, 1, 1, api.OK)
	if x.entries[0].Draw != 1 || x.entries[0].Key != 2 {
		t.Errorf("P8: the entry is %+v, want draw 1 and key 2", x.entries[0])
	}
}

// A server reads with every key that came with an epoch that it has seen, though that key did not write yet.
func TestReadsWithKeysThatItKnows(t *testing.T) {
	x := newCoffer(t, 4)
	x.Refresh(0)
	begins(t, x, 0, put("a", "one"), api.OK)
	commits(t, x, 0, 1, api.OK)
	arrive(x)
	x.Refresh(1)
	takeOver(x)
	x.Refresh(2)
	begins(t, x, 2, put("b", "two"), api.OK)
	commits(t, x, 2, 2, api.OK)
	for s := range 3 {
		reads(t, x, s, "a", "one", 1, api.OK)
	}
	reads(t, x, 0, "b", "", 0, api.ErrKey)
	reads(t, x, 1, "b", "two", 2, api.OK)
	reads(t, x, 2, "b", "two", 2, api.OK)
	reads(t, x, 3, "b", "", 0, api.ErrBlind)
	reads(t, x, 0, "c", "", 0, api.ErrNone)
}

// Of several errors of one entry ErrKey is told first, then ErrGone, then ErrSealed.
func TestReadOrderOfErrors(t *testing.T) {
	x := newCoffer(t, 2)
	x.Refresh(0)
	arrive(x)
	takeOver(x)
	x.Refresh(1)
	begins(t, x, 1, put("a", "one"), api.OK)
	commits(t, x, 1, 1, api.OK)
	x.entries[0].Sealed = strings.Repeat("\x00", len(x.entries[0].Sealed))
	reads(t, x, 0, "a", "", 0, api.ErrKey)
	reads(t, x, 1, "a", "", 0, api.ErrSealed)
	destroy(x, 2)
	reads(t, x, 0, "a", "", 0, api.ErrKey)
	reads(t, x, 1, "a", "", 0, api.ErrGone)
	// What is deleted needs no key.
	x.entries[0] = api.Entry{Path: "a", Rev: 1, Gone: true}
	reads(t, x, 0, "a", "", 0, api.ErrNone)
}

// An entry does not open if its sealed text, draw, key or path is another.
func TestReadChangedEntry(t *testing.T) {
	x := newCoffer(t, 1)
	arrive(x)
	x.Refresh(0)
	begins(t, x, 0, put("a", "one"), api.OK)
	commits(t, x, 0, 1, api.OK)
	right := x.entries[0]
	changed := func(path, sealed string, number, draw int) {
		t.Helper()
		x.entries[0] = api.Entry{Path: path, Rev: 1, Key: number, Draw: draw, Sealed: sealed}
		reads(t, x, 0, path, "", 0, api.ErrSealed)
		x.entries[0] = right
		reads(t, x, 0, "a", "one", 1, api.OK)
	}
	changed("b", right.Sealed, 1, 1)
	changed("aa", right.Sealed, 1, 1)
	changed("a", right.Sealed, 2, 1)
	changed("a", right.Sealed, 1, 2)
	changed("a", right.Sealed, 1, 257)
	changed("a", right.Sealed[1:], 1, 1)
	changed("a", right.Sealed+"\x00", 1, 1)
	changed("a", "", 1, 1)
	changed("a", strings.Repeat("\x00", 7), 1, 1)
	changed("a", strings.Repeat("\x00", 73), 1, 1)
	for i := range right.Sealed {
		b := []byte(right.Sealed)
		b[i] ^= 0x80
		changed("a", string(b), 1, 1)
	}
}

// A secret that does not open is not passed over for an older one; at an older revision that one is told.
func TestReadsTheNewestAlone(t *testing.T) {
	x := newCoffer(t, 1)
	x.Refresh(0)
	for n := range 2 {
		begins(t, x, 0, put("a", "one"), api.OK)
		commits(t, x, 0, n+1, api.OK)
	}
	x.entries[1].Draw = 9
	reads(t, x, 0, "a", "", 0, api.ErrSealed)
	if p, r, e := x.GetAt(0, "a", 1); p != "one" || r != 1 || e != api.OK {
		t.Errorf("P9: GetAt(0, a, 1) = %q, %d, %d", p, r, e)
	}
}

// Nothing of a Put's secret is kept in the open while it is under way, and nothing of it when it is over.
func TestUnderWayIsSealed(t *testing.T) {
	x := newCoffer(t, 1)
	x.Refresh(0)
	begins(t, x, 0, put("a", "one"), api.OK)
	want := operation{epoch: 1, rev: -1, entry: api.Entry{Path: "a", Key: 1, Draw: 1, Sealed: sealedBy(1, 1, "a", "one")}}
	if x.servers[0].op != want {
		t.Errorf("P8: %+v is under way, want %+v", x.servers[0].op, want)
	}
	commits(t, x, 0, 1, api.OK)
	if x.servers[0] != (server{seen: 1}) {
		t.Errorf("P8: the server is left with %+v", x.servers[0])
	}
}

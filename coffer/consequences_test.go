package coffer_test

import (
	"math/rand"
	"slices"
	"testing"

	"coffer/api"
)

// These tests are about P15: what follows from the other promises, and callers lean on.

// watch remembers what a coffer showed.
type watch struct {
	x      book
	plants bool              // whether Plant may be called
	drawn  map[int]api.Entry // of each draw, the first entry that had it
}

func newWatch(x book, plants bool) watch {
	return watch{x: x, plants: plants, drawn: map[int]api.Entry{}}
}

// look looks at the entries that are kept: none has a key that was destroyed, and no draw was used for two sealings.
func (w watch) look(destroyed []bool) {
	w.x.t.Helper()
	for _, entry := range w.x.Entries() {
		if entry.Gone {
			continue
		}
		if destroyed[entry.Key-1] {
			w.x.t.Fatalf("P15: %+v is kept, of a key that was destroyed", entry)
		}
		w.lookAtDraw(entry)
	}
}

// lookAtDraw looks that entries with one draw are copies of one sealing, and that only Plant makes copies.
func (w watch) lookAtDraw(entry api.Entry) {
	w.x.t.Helper()
	first, ok := w.drawn[entry.Draw]
	if !ok {
		w.drawn[entry.Draw] = entry
		return
	}
	if first.Rev != entry.Rev && !w.plants {
		w.x.t.Fatalf("P15: one draw for %+v and %+v", first, entry)
	}
	if first.Key != entry.Key || first.Sealed != entry.Sealed {
		w.x.t.Fatalf("P15: one draw for two sealings: %+v and %+v", first, entry)
	}
}

// fewPaths are the paths of the drawn calls.
var fewPaths = []string{"a", "b", "c", "d"}

// record is what the calls answered: of each revision the operation that it came of, that of revision r at r - 1. It knows nothing of keys.
type record struct {
	x       book
	servers int
	under   []api.Op // of each server, the one that it began last
	done    []api.Op
}

func newRecord(x book, servers int) *record {
	return &record{x: x, servers: servers, under: make([]api.Op, servers)}
}

// told gives the secret that a path was given last, up to a revision, and when.
func (h *record) told(path string, rev int) (string, int, api.Errno) {
	for r := rev; r > 0; r-- {
		if op := h.done[r-1]; op.Path == path {
			if op.Kind == api.Delete {
				break
			}
			return op.Plain, r, api.OK
		}
	}
	return "", 0, api.ErrNone
}

func (h *record) begin(s int, op api.Op) {
	if h.x.Begin(s, op) == api.OK {
		h.under[s] = op
	}
}

func (h *record) commit(s int) {
	if _, e := h.x.Commit(s); e == api.OK {
		h.done = append(h.done, h.under[s])
	}
}

// migrate remembers a moved secret as one that was put anew.
func (h *record) migrate(n int) {
	moved, _ := h.x.Migrate(n)
	list := h.x.Entries()
	for _, entry := range list[len(list)-moved:] {
		plain, _, _ := h.told(entry.Path, len(h.done))
		h.done = append(h.done, put(entry.Path, plain, -1))
	}
}

// plant remembers nothing but that there is a revision more.
func (h *record) plant(path string, rev int) {
	if h.x.Plant(path, rev) == api.OK {
		h.done = append(h.done, api.Op{})
	}
}

// drawnCall makes one call, mostly of a kind that moves something on.
func (h *record) drawnCall(l luck, plants bool) {
	s, rev := l.Intn(h.servers), h.x.State().Rev
	switch l.Intn(16) {
	case 0, 1, 2:
		h.x.Refresh(s)
	case 3:
		if l.Intn(4) == 0 {
			h.x.Crash(s)
		}
	case 4, 5, 6:
		h.begin(s, put(fewPaths[l.Intn(4)], counting(l.Intn(256), l.Intn(65)), -1))
	case 7:
		h.begin(s, gone(fewPaths[l.Intn(4)], -1))
	case 8, 9:
		h.commit(s)
	case 10:
		h.x.Compact(l.Intn(rev + 1))
	case 11:
		h.x.Compact(rev)
		h.x.Gate()
	case 12:
		h.x.Stage(keyText(h.x.State().Write + 1))
		h.x.Promote()
	case 13:
		h.migrate(l.Intn(4))
	case 14:
		h.x.Destroy(1 + l.Intn(api.MaxKeys))
	case 15:
		if plants {
			h.plant(fewPaths[l.Intn(4)], l.Intn(rev+1))
		}
	}
}

// everyRead calls look with what each read of each path answers each server that is not blind.
func (h *record) everyRead(look func(plain string, rev int, e api.Errno, path string, at int)) {
	state := h.x.State()
	for s := range h.servers {
		for _, path := range fewPaths {
			plain, rev, e := h.x.Get(s, path)
			if e == api.ErrBlind {
				continue
			}
			look(plain, rev, e, path, state.Rev)
			for at := max(state.Floor, state.Rev-6); at <= state.Rev; at++ {
				plain, rev, e = h.x.GetAt(s, path, at)
				look(plain, rev, e, path, at)
			}
		}
	}
}

// drawn makes drawn calls of coffers, and calls look after each.
func drawn(t *testing.T, seed int64, plants bool, look func(h *record)) {
	t.Helper()
	l := luck{rand.New(rand.NewSource(seed))}
	turned := 0
	for range 60 {
		servers := 1 + l.Intn(3)
		h := newRecord(blind(t, servers, 4+l.Intn(12)), servers)
		for range 300 {
			h.drawnCall(l, plants)
			look(h)
		}
		if h.x.Destroy(1) == api.ErrGone {
			turned++
		}
	}
	if turned < 20 {
		t.Errorf("only %d of 60 coffers were turned: the draws look at too little", turned)
	}
}

// Where Plant is not called, every read tells what was committed.
func TestReadsTellWhatWasCommitted(t *testing.T) {
	drawn(t, 1, false, func(h *record) {
		h.everyRead(func(plain string, rev int, e api.Errno, path string, at int) {
			if p, r, w := h.told(path, at); plain != p || rev != r || e != w {
				t.Fatalf("P15: of %q at %d is told %q, %d, %d, want %q, %d, %d", path, at, plain, rev, e, p, r, w)
			}
		})
	})
}

// No read ever answers ErrGone, nor ErrKey, with Plant neither.
func TestNoReadWantsAKey(t *testing.T) {
	drawn(t, 2, true, func(h *record) {
		h.everyRead(func(plain string, rev int, e api.Errno, path string, at int) {
			if e != api.OK && e != api.ErrNone && e != api.ErrSealed {
				t.Fatalf("P15: of %q at %d is told %q, %d, %d", path, at, plain, rev, e)
			}
			if e != api.OK && (plain != "" || rev != 0) {
				t.Fatalf("P1: with the error %d there are %q and %d", e, plain, rev)
			}
		})
	})
}

// What began at each time of a turn: only what has seen the Promote comes to be an entry, and that has the key that writes.
func TestNothingComesOfTheOldKey(t *testing.T) {
	x := awake(t, 4, 10)
	x.begin(0, put("a", "ahead of Stage", -1), api.OK)
	x.stage(2, api.OK)
	for s := range 4 {
		x.refresh(s, api.OK)
	}
	x.begin(1, put("b", "ahead of Promote", -1), api.OK)
	x.promote(api.OK)
	x.begin(2, put("c", "not refreshed", -1), api.OK)
	x.refresh(3, api.OK)
	x.begin(3, put("d", "refreshed", -1), api.OK)
	x.gate(api.OK)
	x.destroy(1, api.OK)
	for s := range 3 {
		x.commit(s, 0, api.ErrStale)
	}
	x.commit(3, 1, api.OK)
	x.entries(sealedBy(2, "d", "refreshed", 1, 4))
	// The same when the next key has come by then, and when it writes.
	x.begin(3, put("e", "again", -1), api.OK)
	x.stage(3, api.OK)
	x.commit(3, 2, api.OK)
	x.begin(3, put("f", "late", -1), api.OK)
	for s := range 4 {
		x.refresh(s, api.OK)
	}
	x.promote(api.OK)
	x.commit(3, 0, api.ErrStale)
	x.entries(sealedBy(2, "d", "refreshed", 1, 4), sealedBy(2, "e", "again", 2, 5))
}

// Draws go on through all keys, refused operations, and copies; also where two keys have the same text.
func TestDrawsGoOn(t *testing.T) {
	x := awake(t, 2, 60)
	draw, rev := 0, 0
	same := []api.Entry{}
	puts := func(s int, want api.Errno) {
		t.Helper()
		draw++
		if want == api.OK {
			rev++
			x.does(s, put("a", "same", -1), rev, api.OK)
			same = append(same, secret("a", "same", rev, draw))
			same[len(same)-1].Key = x.State().Write
			return
		}
		x.does(s, put("a", "same", -1), 0, want)
	}
	for range api.MaxKeys - 1 {
		puts(0, api.OK)
		x.plant("a", rev, api.OK)
		rev++
		same = append(same, planted(same[len(same)-1], "a", rev))
		if _, e := x.Stage(exampleKey); e != api.OK {
			t.Fatalf("P11: Stage = %d", e)
		}
		x.refresh(0, api.OK)
		x.refresh(1, api.OK)
		x.promote(api.OK)
		puts(1, api.ErrStale)
		x.migrate(20, 1, api.OK)
		draw++
		rev++
		same = append(same, secret("a", "same", rev, draw))
		same[len(same)-1].Key = x.State().Write
		x.refresh(0, api.OK)
		puts(0, api.OK)
		x.entries(same...)
		x.compact(rev, api.OK)
		same = slices.Clone(same[len(same)-1:])
		x.gate(api.OK)
		x.destroy(x.State().Write-1, api.OK)
		x.entries(same...)
	}
}

// turnsAll lets a key come and turns to it, as P15 says: every server is refreshed, the key is promoted, all is migrated and compacted; then Gate answers OK, and the old key can be destroyed.
func turnsAll(x book, servers int) {
	x.t.Helper()
	old := x.State().Write
	x.turn(old+1, servers)
	for moves := 0; ; moves++ {
		moved, e := x.Migrate(api.MaxMove)
		if rev := x.State().Rev; rev > x.State().Floor {
			x.compact(rev, api.OK)
		}
		if moved == 0 && e == api.OK {
			break
		}
		if moved == 0 || moves > api.MaxRoom {
			x.t.Fatalf("P15: Migrate = %d, %d: it does not come to an end", moved, e)
		}
	}
	x.gate(api.OK)
	x.destroy(old, api.OK)
	x.turnIs(api.Still)
	for _, entry := range x.Entries() {
		if entry.Key != old+1 {
			x.t.Fatalf("P15: %+v has another key than the one that writes", entry)
		}
	}
}

// No secret is lost by turning through all keys, though there may be room for one entry more alone, and operations are under way.
func TestTurningLosesNothing(t *testing.T) {
	l := luck{rand.New(rand.NewSource(3))}
	for n := range 120 {
		servers := 1 + l.Intn(api.MaxServers)
		count := l.Intn(api.MaxRoom)
		room := count + 1
		if n%2 == 0 {
			room = min(api.MaxRoom, count+1+l.Intn(30))
		}
		x := awake(t, servers, room)
		plains := []string{}
		for i := range count {
			plains = append(plains, counting(l.Intn(256), l.Intn(65)))
			x.does(l.Intn(servers), put(counting(i, 1+i%16), plains[i], 0), i+1, api.OK)
		}
		for range api.MaxKeys - 1 {
			for s := range servers {
				x.Begin(s, put(counting(l.Intn(60), 1), "lost", -1))
			}
			turnsAll(x, servers)
			for i, plain := range plains {
				if p, _, e := x.Get(l.Intn(servers), counting(i, 1+i%16)); p != plain || e != api.OK {
					t.Fatalf("P15: Get = %q, %d, want %q", p, e, plain)
				}
			}
			for s := range servers {
				x.commit(s, 0, api.ErrStale)
				x.refresh(s, api.OK)
			}
			if len(x.Entries()) != count {
				t.Fatalf("P15: %d entries are kept, want %d", len(x.Entries()), count)
			}
		}
	}
}

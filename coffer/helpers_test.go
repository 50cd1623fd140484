package coffer_test

import (
	"encoding/binary"
	"encoding/hex"
	"math"
	"slices"
	"strings"
	"testing"

	"coffer/api"
	"coffer/coffer"
	"coffer/seal"
)

// counting gives n bytes: from, from + 1 ..
func counting(from, n int) string {
	b := make([]byte, n)
	for i := range b {
		b[i] = byte(from + i)
	}
	return string(b)
}

// exampleKey is the key K of the document's examples.
var exampleKey = counting(0, api.KeyBytes)

// keyText gives the text of the key of a number, as these tests let keys come: the first is that of the examples.
func keyText(number int) string { return counting(40*(number-1), api.KeyBytes) }

// noServers are numbers that no server has, whatever the settings.
var noServers = []int{-1, api.MaxServers, api.MaxServers + 1, 256, 1 << 32, -1 << 32, math.MaxInt, math.MinInt}

// noPaths are texts that are no paths.
var noPaths = []string{"", strings.Repeat("a", api.MaxPath+1), strings.Repeat("a", 256), strings.Repeat("a", 1<<20)}

// book is a coffer, and the test that it is used in.
type book struct {
	*coffer.Coffer
	t *testing.T
}

// blind gives a coffer whose servers know no keys.
func blind(t *testing.T, servers, room int) book {
	t.Helper()
	x, e := coffer.New(api.Config{Servers: servers, Room: room, Key: exampleKey})
	if x == nil || e != api.OK {
		t.Fatalf("P6: New(%d, %d, ..) = %v, %d", servers, room, x, e)
	}
	return book{x, t}
}

// awake gives a coffer whose servers are refreshed.
func awake(t *testing.T, servers, room int) book {
	t.Helper()
	x := blind(t, servers, room)
	for s := range servers {
		x.refresh(s, api.OK)
	}
	return x
}

func put(path, plain string, rev int) api.Op {
	return api.Op{Kind: api.Put, Path: path, Plain: plain, Rev: rev}
}

func gone(path string, rev int) api.Op {
	return api.Op{Kind: api.Delete, Path: path, Rev: rev}
}

func (x book) refresh(s int, want api.Errno) {
	x.t.Helper()
	if e := x.Refresh(s); e != want {
		x.t.Fatalf("P7: Refresh(%d) = %d, want %d", s, e, want)
	}
}

func (x book) crash(s int, want api.Errno) {
	x.t.Helper()
	if e := x.Crash(s); e != want {
		x.t.Fatalf("P7: Crash(%d) = %d, want %d", s, e, want)
	}
}

func (x book) begin(s int, op api.Op, want api.Errno) {
	x.t.Helper()
	if e := x.Begin(s, op); e != want {
		x.t.Fatalf("P8: Begin(%d, %+v) = %d, want %d", s, op, e, want)
	}
}

func (x book) commit(s, rev int, want api.Errno) {
	x.t.Helper()
	if got, e := x.Commit(s); got != rev || e != want {
		x.t.Fatalf("P8: Commit(%d) = %d, %d, want %d, %d", s, got, e, rev, want)
	}
}

// does begins an operation, and commits it.
func (x book) does(s int, op api.Op, rev int, want api.Errno) {
	x.t.Helper()
	x.begin(s, op, api.OK)
	x.commit(s, rev, want)
}

func (x book) get(s int, path, plain string, rev int, want api.Errno) {
	x.t.Helper()
	if p, r, e := x.Get(s, path); p != plain || r != rev || e != want {
		x.t.Fatalf("P9: Get(%d, %q) = %q, %d, %d, want %q, %d, %d", s, path, p, r, e, plain, rev, want)
	}
}

func (x book) getAt(s int, path string, at int, plain string, rev int, want api.Errno) {
	x.t.Helper()
	if p, r, e := x.GetAt(s, path, at); p != plain || r != rev || e != want {
		x.t.Fatalf("P9: GetAt(%d, %q, %d) = %q, %d, %d, want %q, %d, %d", s, path, at, p, r, e, plain, rev, want)
	}
}

func (x book) compact(rev int, want api.Errno) {
	x.t.Helper()
	if e := x.Compact(rev); e != want {
		x.t.Fatalf("P10: Compact(%d) = %d, want %d", rev, e, want)
	}
}

// stage lets the key of a number come.
func (x book) stage(number int, want api.Errno) {
	x.t.Helper()
	answer := number
	if want != api.OK {
		answer = 0
	}
	if got, e := x.Stage(keyText(number)); got != answer || e != want {
		x.t.Fatalf("P11: Stage of key %d = %d, %d, want %d, %d", number, got, e, answer, want)
	}
}

func (x book) promote(want api.Errno) {
	x.t.Helper()
	if e := x.Promote(); e != want {
		x.t.Fatalf("P11: Promote = %d, want %d", e, want)
	}
}

func (x book) migrate(n, moved int, want api.Errno) {
	x.t.Helper()
	if got, e := x.Migrate(n); got != moved || e != want {
		x.t.Fatalf("P12: Migrate(%d) = %d, %d, want %d, %d", n, got, e, moved, want)
	}
}

func (x book) gate(want api.Errno) {
	x.t.Helper()
	if e := x.Gate(); e != want {
		x.t.Fatalf("P12: Gate = %d, want %d", e, want)
	}
}

func (x book) destroy(k int, want api.Errno) {
	x.t.Helper()
	if e := x.Destroy(k); e != want {
		x.t.Fatalf("P12: Destroy(%d) = %d, want %d", k, e, want)
	}
}

func (x book) plant(path string, rev int, want api.Errno) {
	x.t.Helper()
	if e := x.Plant(path, rev); e != want {
		x.t.Fatalf("P13: Plant(%q, %d) = %d, want %d", path, rev, e, want)
	}
}

func (x book) place(pod, node int, want api.Errno) {
	x.t.Helper()
	if e := x.Place(pod, node); e != want {
		x.t.Fatalf("P14: Place(%d, %d) = %d, want %d", pod, node, e, want)
	}
}

func (x book) refer(pod int, path string, on bool, want api.Errno) {
	x.t.Helper()
	if e := x.Refer(pod, path, on); e != want {
		x.t.Fatalf("P14: Refer(%d, %q, %t) = %d, want %d", pod, path, on, e, want)
	}
}

func (x book) fetch(s, node int, path, plain string, want api.Errno) {
	x.t.Helper()
	if p, e := x.Fetch(s, node, path); p != plain || e != want {
		x.t.Fatalf("P14: Fetch(%d, %d, %q) = %q, %d, want %q, %d", s, node, path, p, e, plain, want)
	}
}

// turn lets the key of a number come and write; its servers, from 0 on, have seen it come.
func (x book) turn(number, servers int) {
	x.t.Helper()
	x.stage(number, api.OK)
	for s := range servers {
		x.refresh(s, api.OK)
	}
	x.promote(api.OK)
}

// turnIs looks at Turn alone.
func (x book) turnIs(want int) {
	x.t.Helper()
	if got := x.State().Turn; got != want {
		x.t.Fatalf("P11, P12: Turn is %d, want %d", got, want)
	}
}

func (x book) state(want api.State) {
	x.t.Helper()
	if got := x.State(); got != want {
		x.t.Fatalf("P6: State = %+v, want %+v", got, want)
	}
}

func (x book) entries(want ...api.Entry) {
	x.t.Helper()
	if got := x.Entries(); !slices.Equal(got, want) {
		x.t.Fatalf("P6: Entries = %+v, want %+v", got, want)
	}
}

// revs looks at the revisions of the entries that are kept.
func (x book) revs(want ...int) {
	x.t.Helper()
	var got []int
	for _, entry := range x.Entries() {
		got = append(got, entry.Rev)
	}
	if !slices.Equal(got, want) {
		x.t.Fatalf("P10: entries of the revisions %d are kept, want %d", got, want)
	}
}

// nonceOf gives the nonce of a draw.
func nonceOf(draw int) string {
	b := make([]byte, api.NonceBytes)
	binary.LittleEndian.PutUint64(b, uint64(draw))
	return string(b)
}

// secret gives the entry of a Put, sealed with the key of the examples.
func secret(path, plain string, rev, draw int) api.Entry {
	return sealedBy(1, path, plain, rev, draw)
}

// sealedBy gives the entry of a Put, sealed with the key of a number.
func sealedBy(number int, path, plain string, rev, draw int) api.Entry {
	text, _ := seal.Seal(keyText(number), nonceOf(draw), path, plain)
	return api.Entry{Path: path, Rev: rev, Key: number, Draw: draw, Sealed: text}
}

// planted gives what Plant makes of an entry.
func planted(entry api.Entry, path string, rev int) api.Entry {
	entry.Path, entry.Rev = path, rev
	return entry
}

// deletion gives the entry of a Delete.
func deletion(path string, rev int) api.Entry {
	return api.Entry{Path: path, Rev: rev, Gone: true}
}

func fromHex(t *testing.T, digits string) string {
	t.Helper()
	b, err := hex.DecodeString(digits)
	if err != nil {
		t.Fatalf("%q is no hex: %v", digits, err)
	}
	return string(b)
}

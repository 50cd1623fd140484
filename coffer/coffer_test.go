package coffer_test

import (
	"math"
	"slices"
	"strings"
	"testing"

	"coffer/api"
	"coffer/coffer"
)

func TestNew(t *testing.T) {
	for servers := 1; servers <= api.MaxServers; servers++ {
		for room := 1; room <= api.MaxRoom; room++ {
			x := blind(t, servers, room)
			x.state(api.State{Rev: 0, Floor: 0, Epoch: 1, Write: 1, Turn: api.Still})
			x.entries()
			for s := range servers {
				x.get(s, "a", "", 0, api.ErrBlind)
				x.commit(s, 0, api.ErrIdle)
			}
			x.get(servers, "a", "", 0, api.ErrServer)
		}
	}
}

func TestNewWrongSettings(t *testing.T) {
	refuse := func(servers, room int, key string) {
		t.Helper()
		x, e := coffer.New(api.Config{Servers: servers, Room: room, Key: key})
		if x != nil || e != api.ErrConfig {
			t.Errorf("P6: New(%d, %d, %d bytes) = %v, %d", servers, room, len(key), x, e)
		}
	}
	for _, n := range []int{0, -1, 5, 6, 60, 257, 1<<32 + 1, math.MaxInt, math.MinInt} {
		refuse(n, 10, exampleKey)
	}
	for _, n := range []int{0, -1, 61, 62, 257, 1<<32 + 1, math.MaxInt, math.MinInt} {
		refuse(2, n, exampleKey)
	}
	for n := range 200 {
		if n != api.KeyBytes {
			refuse(2, 10, counting(0, n))
		}
	}
	refuse(2, 10, strings.Repeat("k", 256+api.KeyBytes))
	refuse(2, 10, strings.Repeat("k", 1<<20))
	refuse(0, 0, "")
}

// A key may have any bytes: noughts, too.
func TestNewAnyKey(t *testing.T) {
	for _, key := range []string{strings.Repeat("\x00", 48), strings.Repeat("\xff", 48), counting(200, 48)} {
		c, e := coffer.New(api.Config{Servers: 1, Room: 1, Key: key})
		if c == nil || e != api.OK {
			t.Fatalf("P6: New with the key %x = %v, %d", key, c, e)
		}
		x := book{c, t}
		x.refresh(0, api.OK)
		x.does(0, put("a", "one", 0), 1, api.OK)
		x.get(0, "a", "one", 1, api.OK)
	}
}

// The document's example 4.
func TestExample(t *testing.T) {
	x := blind(t, 2, 10)
	x.state(api.State{Epoch: 1, Write: 1})
	x.get(0, "a", "", 0, api.ErrBlind)
	x.refresh(0, api.OK)
	x.get(0, "a", "", 0, api.ErrNone)
	x.does(0, put("a", "one", 0), 1, api.OK)
	x.get(0, "a", "one", 1, api.OK)
	x.does(0, put("a", "two", 0), 0, api.ErrConflict)
	x.does(0, put("a", "two", 1), 2, api.OK)
	first := api.Entry{Path: "a", Rev: 1, Key: 1, Draw: 1, Sealed: fromHex(t, "fb511ee86999e02f446777")}
	second := api.Entry{Path: "a", Rev: 2, Key: 1, Draw: 3, Sealed: fromHex(t, "88668ba789dd9078bcdee6")}
	x.entries(first, second)
	x.getAt(0, "a", 1, "one", 1, api.OK)
	x.getAt(0, "a", 3, "", 0, api.ErrRev)
	x.compact(2, api.OK)
	x.entries(second)
	x.getAt(0, "a", 1, "", 0, api.ErrRev)
	x.state(api.State{Rev: 2, Floor: 2, Epoch: 1, Write: 1})
}

// P2: what the caller does to a list, also behind its end, is seen by nobody else.
func TestListsAreTheCallers(t *testing.T) {
	x := awake(t, 1, 10)
	want := []api.Entry{}
	for n := range 5 {
		x.does(0, put("a", "x", n), n+1, api.OK)
		want = append(want, secret("a", "x", n+1, n+1))
		first := x.Entries()
		second := x.Entries()
		spoil(first)
		if !slices.Equal(second, want) {
			t.Fatalf("P2: a list became %+v, want %+v", second, want)
		}
		x.entries(want...)
		x.get(0, "a", "x", n+1, api.OK)
	}
	x.compact(3, api.OK)
	spoil(x.Entries())
	x.entries(want[2:]...)
	x.does(0, put("a", "y", 5), 6, api.OK)
	x.getAt(0, "a", 5, "x", 5, api.OK)
	x.getAt(0, "a", 6, "y", 6, api.OK)
}

// spoil writes into a list, into its spare room too.
func spoil(list []api.Entry) {
	whole := list[:cap(list)]
	for i := range whole {
		whole[i] = api.Entry{Path: "spoilt", Rev: 99, Gone: true}
	}
}

// P2: a list stays as it was, whatever the coffer does later.
func TestListsStay(t *testing.T) {
	x := awake(t, 1, 10)
	x.does(0, put("a", "one", 0), 1, api.OK)
	x.does(0, put("a", "two", 1), 2, api.OK)
	list := x.Entries()
	want := []api.Entry{secret("a", "one", 1, 1), secret("a", "two", 2, 2)}
	x.does(0, gone("a", 2), 3, api.OK)
	x.compact(3, api.OK)
	x.does(0, put("b", "three", 0), 4, api.OK)
	if !slices.Equal(list, want) {
		t.Errorf("P2: a list became %+v, want %+v", list, want)
	}
}

// P2: of two coffers none hangs on the other, though they were made of the same settings.
func TestCoffersApart(t *testing.T) {
	x := awake(t, 2, 2)
	y := blind(t, 2, 2)
	y.get(0, "a", "", 0, api.ErrBlind)
	x.begin(0, put("a", "one", 0), api.OK)
	y.commit(0, 0, api.ErrIdle)
	y.refresh(0, api.OK)
	y.does(0, put("b", "two", 0), 1, api.OK)
	x.commit(0, 1, api.OK)
	x.does(1, put("b", "three", 0), 2, api.OK)
	y.crash(1, api.OK)
	x.get(1, "b", "three", 2, api.OK)
	x.compact(2, api.OK)
	x.state(api.State{Rev: 2, Floor: 2, Epoch: 1, Write: 1})
	y.state(api.State{Rev: 1, Floor: 0, Epoch: 1, Write: 1})
	x.entries(secret("a", "one", 1, 1), secret("b", "three", 2, 2))
	y.entries(secret("b", "two", 1, 1))
}

package coffer_test

import (
	"math"
	"testing"

	"coffer/api"
)

func TestGetNone(t *testing.T) {
	x := awake(t, 1, 10)
	for _, path := range append(noPaths, "a", "ab", "\x00") {
		x.get(0, path, "", 0, api.ErrNone)
		x.getAt(0, path, 0, "", 0, api.ErrNone)
	}
	x.does(0, put("a", "one", 0), 1, api.OK)
	x.does(0, put("aa", "two", 0), 2, api.OK)
	for _, path := range append(noPaths, "A", "ab", "aaa", "a\x00", "\x00a", "b") {
		x.get(0, path, "", 0, api.ErrNone)
		x.getAt(0, path, 2, "", 0, api.ErrNone)
	}
	x.get(0, "a", "one", 1, api.OK)
	x.get(0, "aa", "two", 2, api.OK)
}

// A blind server is told so, whatever it asks.
func TestGetBlind(t *testing.T) {
	x := awake(t, 2, 10)
	x.does(0, put("a", "one", 0), 1, api.OK)
	x.crash(1, api.OK)
	for _, path := range append(noPaths, "a", "b") {
		x.get(1, path, "", 0, api.ErrBlind)
		for _, at := range []int{-1, 0, 1, 2, math.MaxInt, math.MinInt} {
			x.getAt(1, path, at, "", 0, api.ErrBlind)
		}
	}
}

// ErrRev stands ahead of ErrNone.
func TestGetAtNoRevision(t *testing.T) {
	x := awake(t, 1, 10)
	x.getAt(0, "a", 0, "", 0, api.ErrNone)
	x.getAt(0, "a", 1, "", 0, api.ErrRev)
	x.does(0, put("a", "one", 0), 1, api.OK)
	x.does(0, put("a", "two", 1), 2, api.OK)
	x.does(0, put("a", "three", 2), 3, api.OK)
	for _, path := range append(noPaths, "a", "b") {
		for _, at := range []int{-1, -2, 4, 5, 1 << 32, -1 << 32, math.MaxInt, math.MinInt} {
			x.getAt(0, path, at, "", 0, api.ErrRev)
		}
	}
	x.compact(2, api.OK)
	for _, path := range append(noPaths, "a", "b") {
		for _, at := range []int{-1, 0, 1, 4, math.MaxInt, math.MinInt} {
			x.getAt(0, path, at, "", 0, api.ErrRev)
		}
	}
	x.getAt(0, "a", 2, "two", 2, api.OK)
	x.getAt(0, "a", 3, "three", 3, api.OK)
}

// GetAt tells how it was, at every revision; the revision that it answers is the entry's.
func TestGetAt(t *testing.T) {
	x := awake(t, 2, 10)
	x.does(0, put("a", "one", 0), 1, api.OK)
	x.does(0, put("b", "two", 0), 2, api.OK)
	x.does(0, put("a", "three", 1), 3, api.OK)
	x.does(0, gone("a", 3), 4, api.OK)
	x.does(0, put("a", "five", 0), 5, api.OK)
	x.does(0, put("a", "", 5), 6, api.OK)
	for s := range 2 {
		x.getAt(s, "a", 0, "", 0, api.ErrNone)
		x.getAt(s, "a", 1, "one", 1, api.OK)
		x.getAt(s, "a", 2, "one", 1, api.OK)
		x.getAt(s, "a", 3, "three", 3, api.OK)
		x.getAt(s, "a", 4, "", 0, api.ErrNone)
		x.getAt(s, "a", 5, "five", 5, api.OK)
		x.getAt(s, "a", 6, "", 6, api.OK)
		x.getAt(s, "b", 1, "", 0, api.ErrNone)
		x.getAt(s, "b", 2, "two", 2, api.OK)
		x.getAt(s, "b", 6, "two", 2, api.OK)
		x.get(s, "a", "", 6, api.OK)
		x.get(s, "b", "two", 2, api.OK)
	}
}

// Reads are allowed while an operation is under way, and change nothing.
func TestReadsChangeNothing(t *testing.T) {
	x := awake(t, 1, 10)
	x.does(0, put("a", "one", 0), 1, api.OK)
	x.begin(0, put("a", "two", 1), api.OK)
	for range 3 {
		x.get(0, "a", "one", 1, api.OK)
		x.getAt(0, "a", 1, "one", 1, api.OK)
		x.getAt(0, "a", 2, "", 0, api.ErrRev)
		x.get(0, "b", "", 0, api.ErrNone)
		x.entries(secret("a", "one", 1, 1))
		x.state(api.State{Rev: 1, Epoch: 1, Write: 1})
	}
	x.commit(0, 2, api.OK)
	x.entries(secret("a", "one", 1, 1), secret("a", "two", 2, 2))
}

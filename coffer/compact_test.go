package coffer_test

import (
	"math"
	"testing"

	"coffer/api"
)

// history: "a" has the revisions 1, 3 and 6, "b" 2 and 4 (deleted), "c" 5 and 7 (deleted) and 8.
func history(t *testing.T) book {
	t.Helper()
	x := awake(t, 1, 10)
	for i, op := range []api.Op{put("a", "a1", 0), put("b", "b2", 0), put("a", "a3", 1), gone("b", 2), put("c", "c5", 0), put("a", "a6", 3), gone("c", 5), put("c", "c8", 0)} {
		x.does(0, op, i+1, api.OK)
	}
	return x
}

// What is kept after Compact up to each revision.
var keptOfHistory = [][]int{
	1: {1, 2, 3, 4, 5, 6, 7, 8},
	2: {1, 2, 3, 4, 5, 6, 7, 8},
	3: {2, 3, 4, 5, 6, 7, 8},
	4: {3, 5, 6, 7, 8},
	5: {3, 5, 6, 7, 8},
	6: {5, 6, 7, 8},
	7: {6, 8},
	8: {6, 8},
}

func TestCompact(t *testing.T) {
	for rev := 1; rev <= 8; rev++ {
		x := history(t)
		x.compact(rev, api.OK)
		x.revs(keptOfHistory[rev]...)
		x.state(api.State{Rev: 8, Floor: rev, Epoch: 1, Write: 1})
	}
}

// Step by step or at once, in the end the same is kept.
func TestCompactInSteps(t *testing.T) {
	for first := 1; first <= 7; first++ {
		for second := first + 1; second <= 8; second++ {
			x := history(t)
			x.compact(first, api.OK)
			x.compact(second, api.OK)
			x.revs(keptOfHistory[second]...)
			x.state(api.State{Rev: 8, Floor: second, Epoch: 1, Write: 1})
		}
	}
}

// All that may be read after Compact is as it was ahead of it.
func TestCompactLosesNothing(t *testing.T) {
	for rev := 1; rev <= 8; rev++ {
		x, whole := history(t), history(t)
		x.compact(rev, api.OK)
		for _, path := range []string{"a", "b", "c", "d"} {
			plain, at, e := whole.Get(0, path)
			x.get(0, path, plain, at, e)
			for r := range 9 {
				plain, at, e := whole.GetAt(0, path, r)
				if r < rev {
					plain, at, e = "", 0, api.ErrRev
				}
				x.getAt(0, path, r, plain, at, e)
			}
		}
	}
}

func TestCompactNoRevision(t *testing.T) {
	x := blind(t, 1, 10)
	for _, rev := range []int{-1, 0, 1, math.MaxInt, math.MinInt} {
		x.compact(rev, api.ErrRev)
	}
	x = history(t)
	x.compact(5, api.OK)
	want := x.Entries()
	for _, rev := range []int{5, 4, 1, 0, -1, 9, 10, 1 << 32, 1<<32 + 6, -1 << 32, math.MaxInt, math.MinInt} {
		x.compact(rev, api.ErrRev)
	}
	x.entries(want...)
	x.state(api.State{Rev: 8, Floor: 5, Epoch: 1, Write: 1})
	x.compact(6, api.OK)
}

// Revisions, draws and operations under way go on over Compact.
func TestCompactGoesOn(t *testing.T) {
	x := awake(t, 2, 10)
	x.does(0, put("a", "one", 0), 1, api.OK)
	x.begin(1, put("a", "two", 1), api.OK)
	x.does(0, put("b", "x", 0), 2, api.OK)
	x.does(0, gone("b", 2), 3, api.OK)
	x.compact(3, api.OK)
	x.entries(secret("a", "one", 1, 1))
	x.commit(1, 4, api.OK)
	x.does(0, gone("b", -1), 0, api.ErrNone)
	x.does(0, put("b", "y", 0), 5, api.OK)
	x.entries(secret("a", "one", 1, 1), secret("a", "two", 4, 2), secret("b", "y", 5, 4))
	x.state(api.State{Rev: 5, Floor: 3, Epoch: 1, Write: 1})
}

// When everything is deleted, nothing is left; the last revision stays.
func TestCompactToNothing(t *testing.T) {
	x := awake(t, 1, 2)
	x.does(0, put("a", "one", 0), 1, api.OK)
	x.does(0, gone("a", 1), 2, api.OK)
	x.compact(2, api.OK)
	x.entries()
	x.state(api.State{Rev: 2, Floor: 2, Epoch: 1, Write: 1})
	x.getAt(0, "a", 2, "", 0, api.ErrNone)
	x.does(0, put("a", "two", 0), 3, api.OK)
	x.entries(secret("a", "two", 3, 2))
}

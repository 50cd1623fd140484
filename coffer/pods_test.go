package coffer_test

import (
	"math"
	"slices"
	"strings"
	"testing"

	"coffer/api"
)

// The document's example 6, behind the calls of examples 4 and 5.
func TestPodsExample(t *testing.T) {
	x := blind(t, 2, 10)
	x.refresh(0, api.OK)
	x.does(0, put("a", "one", 0), 1, api.OK)
	x.does(0, put("a", "two", 1), 2, api.OK)
	x.turn(2, 2)
	x.migrate(5, 1, api.OK)
	x.compact(3, api.OK)
	x.gate(api.OK)
	x.destroy(1, api.OK)
	x.place(0, 2, api.OK)
	x.refer(0, "a", true, api.OK)
	x.fetch(0, 2, "a", "two", api.OK)
	x.fetch(0, 1, "a", "", api.ErrDenied)
	x.place(0, -1, api.OK)
	x.fetch(0, 2, "a", "", api.ErrDenied)
}

// withSecrets gives a coffer with two servers that know the keys, and the secrets of these paths.
func withSecrets(t *testing.T, paths ...string) book {
	t.Helper()
	x := awake(t, 2, 60)
	for n, path := range paths {
		x.does(0, put(path, path+"!", 0), n+1, api.OK)
	}
	return x
}

// gets looks that just these nodes get the secret of a path.
func (x book) gets(path string, nodes ...int) {
	x.t.Helper()
	for node := range api.MaxNodes {
		if slices.Contains(nodes, node) {
			x.fetch(0, node, path, path+"!", api.OK)
		} else {
			x.fetch(0, node, path, "", api.ErrDenied)
		}
	}
}

// At first no pod is on a node, and none needs a secret.
func TestPodsAtFirst(t *testing.T) {
	x := withSecrets(t, "a")
	x.gets("a")
	for pod := range api.MaxPods {
		x.refer(pod, "a", true, api.OK)
	}
	x.gets("a")
	y := withSecrets(t, "a")
	for pod := range api.MaxPods {
		y.place(pod, pod%api.MaxNodes, api.OK)
	}
	y.gets("a")
}

// Every pod can be on every node, and on one at a time.
func TestPlaceEveryPod(t *testing.T) {
	for pod := range api.MaxPods {
		x := withSecrets(t, "a")
		x.refer(pod, "a", true, api.OK)
		for node := range api.MaxNodes {
			x.place(pod, node, api.OK)
			x.gets("a", node)
			x.place(pod, node, api.OK)
			x.gets("a", node)
		}
		x.place(pod, -1, api.OK)
		x.gets("a")
		x.place(pod, -1, api.OK)
		x.gets("a")
		x.place(pod, 0, api.OK)
		x.gets("a", 0)
	}
}

// What a pod needs goes with it; what another one needs does not.
func TestNeedsGoWithThePod(t *testing.T) {
	x := withSecrets(t, "a", "b", "c")
	x.place(0, 0, api.OK)
	x.place(1, 1, api.OK)
	x.refer(0, "a", true, api.OK)
	x.refer(0, "b", true, api.OK)
	x.refer(1, "b", true, api.OK)
	x.gets("a", 0)
	x.gets("b", 0, 1)
	x.gets("c")
	x.place(0, 3, api.OK)
	x.gets("a", 3)
	x.gets("b", 1, 3)
	x.place(1, 3, api.OK)
	x.gets("a", 3)
	x.gets("b", 3)
	x.refer(0, "b", false, api.OK)
	x.gets("b", 3)
	x.refer(1, "b", false, api.OK)
	x.gets("b")
	x.gets("a", 3)
	// A pod that is on no node may be told what it needs.
	x.refer(7, "c", true, api.OK)
	x.gets("c")
	x.place(7, 0, api.OK)
	x.gets("c", 0)
}

// A secret that is needed twice is not needed any more when that is said once; and that may be said of what is not needed.
func TestReferTwice(t *testing.T) {
	x := withSecrets(t, "a", "aa")
	x.place(3, 1, api.OK)
	x.refer(3, "a", false, api.OK)
	x.gets("a")
	x.refer(3, "a", true, api.OK)
	x.refer(3, "a", true, api.OK)
	x.gets("a", 1)
	x.refer(3, "aa", false, api.OK)
	x.gets("a", 1)
	x.gets("aa")
	x.refer(3, "a", false, api.OK)
	x.gets("a")
	x.refer(3, "a", false, api.OK)
	x.refer(3, "a", true, api.OK)
	x.gets("a", 1)
}

// Paths are told apart byte by byte.
func TestReferNamesOnePath(t *testing.T) {
	paths := []string{"a", "A", "aa", "a\x00", "\x00a", "\x00", "\xff", strings.Repeat("a", 15), strings.Repeat("a", 16)}
	for _, needed := range paths {
		x := withSecrets(t, paths...)
		x.place(0, 0, api.OK)
		x.refer(0, needed, true, api.OK)
		for _, path := range paths {
			if path == needed {
				x.gets(path, 0)
			} else {
				x.gets(path)
			}
		}
	}
}

// pathsOf gives n paths.
func pathsOf(n int) []string {
	var list []string
	for i := range n {
		list = append(list, "p"+counting('0'+i, 1))
	}
	return list
}

// A pod needs MaxPods paths at most: of others one more is refused, until one is given up.
func TestReferMany(t *testing.T) {
	paths := pathsOf(10)
	for pod := range api.MaxPods {
		x := withSecrets(t, paths...)
		x.place(pod, 2, api.OK)
		for _, path := range paths[:8] {
			x.refer(pod, path, true, api.OK)
			x.refer(pod, path, true, api.OK)
		}
		for range 2 {
			x.refer(pod, paths[8], true, api.ErrMany)
			x.refer(pod, paths[8], false, api.OK)
			x.gets(paths[8])
		}
		// Those that it needs already are no others.
		for _, path := range paths[:8] {
			x.refer(pod, path, true, api.OK)
			x.gets(path, 2)
		}
		x.refer(pod, paths[9], true, api.ErrMany)
		x.refer(pod, paths[5], false, api.OK)
		x.refer(pod, paths[9], true, api.OK)
		x.refer(pod, paths[5], true, api.ErrMany)
		x.gets(paths[5])
		x.gets(paths[9], 2)
		for _, path := range paths {
			x.refer(pod, path, false, api.OK)
			x.gets(path)
		}
		for _, path := range paths[2:] {
			x.refer(pod, path, true, api.OK)
			x.gets(path, 2)
		}
		x.refer(pod, paths[0], true, api.ErrMany)
	}
}

// Each pod has its own count, and all of them may be full.
func TestReferManyPods(t *testing.T) {
	paths := pathsOf(9)
	x := withSecrets(t, paths...)
	for pod := range api.MaxPods {
		for _, path := range paths[:8] {
			x.refer(pod, path, true, api.OK)
		}
	}
	for pod := range api.MaxPods {
		x.refer(pod, paths[8], true, api.ErrMany)
	}
	x.refer(3, paths[0], false, api.OK)
	x.refer(4, paths[8], true, api.ErrMany)
	x.refer(3, paths[8], true, api.OK)
	x.place(3, 0, api.OK)
	x.gets(paths[0])
	x.place(4, 1, api.OK)
	x.gets(paths[0], 1)
	x.gets(paths[8], 0)
}

var noPods = []int{-1, -2, 8, 9, 255, 256, 1 << 32, 1<<32 + 1, -1 << 32, math.MaxInt, math.MinInt}

var noNodes = []int{-2, -3, 4, 5, 8, 255, 256, 1 << 32, 1<<32 + 1, -1 << 32, math.MaxInt, math.MinInt}

// What Place refuses changes nothing.
func TestPlaceWrong(t *testing.T) {
	x := withSecrets(t, "a")
	for pod := range api.MaxPods {
		x.refer(pod, "a", true, api.OK)
	}
	x.place(0, 1, api.OK)
	for _, pod := range noPods {
		for node := -1; node < api.MaxNodes; node++ {
			x.place(pod, node, api.ErrArg)
		}
		for _, node := range noNodes {
			x.place(pod, node, api.ErrArg)
		}
	}
	for pod := range api.MaxPods {
		for _, node := range noNodes {
			x.place(pod, node, api.ErrArg)
		}
	}
	x.gets("a", 1)
}

// What Refer refuses changes nothing; ErrArg stands ahead of ErrMany.
func TestReferWrong(t *testing.T) {
	paths := pathsOf(9)
	x := withSecrets(t, paths...)
	x.place(2, 1, api.OK)
	x.place(0, 0, api.OK)
	for _, path := range paths[:8] {
		x.refer(2, path, true, api.OK)
	}
	for _, on := range []bool{true, false} {
		for _, pod := range noPods {
			for _, path := range slices.Concat(noPaths, paths) {
				x.refer(pod, path, on, api.ErrArg)
			}
		}
		for pod := range api.MaxPods {
			for _, path := range noPaths {
				x.refer(pod, path, on, api.ErrArg)
			}
		}
	}
	x.refer(2, paths[8], true, api.ErrMany)
	for _, path := range paths[:8] {
		x.gets(path, 1)
	}
	x.gets(paths[8])
	// What is no path was not counted: another pod still has room for all.
	for _, path := range paths[:8] {
		x.refer(0, path, true, api.OK)
	}
}

// The errors of Fetch in their order: ErrServer, ErrArg, ErrDenied, and then those of Get.
func TestFetchOrderOfErrors(t *testing.T) {
	x := withSecrets(t, "a", "b")
	x.plant("c", 1, api.OK)
	x.place(0, 0, api.OK)
	for _, path := range []string{"a", "c", "none"} {
		x.refer(0, path, true, api.OK)
	}
	x.crash(1, api.OK)
	all := slices.Concat(noPaths, []string{"a", "b", "c", "none"})
	for _, path := range all {
		for _, s := range append(noServers, 2, 3) {
			for _, node := range slices.Concat(noNodes, []int{-1, 0, 1}) {
				x.fetch(s, node, path, "", api.ErrServer)
			}
		}
		for s := range 2 {
			for _, node := range append(noNodes, -1) {
				x.fetch(s, node, path, "", api.ErrArg)
			}
			for node := 1; node < api.MaxNodes; node++ {
				x.fetch(s, node, path, "", api.ErrDenied)
			}
		}
	}
	for s := range 2 {
		for _, path := range append(noPaths, "b", "nobody") {
			x.fetch(s, 0, path, "", api.ErrDenied)
		}
	}
	for _, path := range []string{"a", "c", "none"} {
		x.fetch(1, 0, path, "", api.ErrBlind)
	}
	x.fetch(0, 0, "a", "a!", api.OK)
	x.fetch(0, 0, "c", "", api.ErrSealed)
	x.fetch(0, 0, "none", "", api.ErrNone)
}

// Pods on no node give nothing to the node -1, which is none.
func TestFetchOfNoNode(t *testing.T) {
	x := withSecrets(t, "a")
	x.refer(0, "a", true, api.OK)
	x.place(1, -1, api.OK)
	x.refer(1, "a", true, api.OK)
	x.fetch(0, -1, "a", "", api.ErrArg)
}

// Fetch tells the newest entry, as Get does, whatever became of it.
func TestFetchAsGet(t *testing.T) {
	x := awake(t, 2, 20)
	x.place(5, 3, api.OK)
	x.refer(5, "a", true, api.OK)
	same := func(plain string, rev int, want api.Errno) {
		t.Helper()
		for s := range 2 {
			x.get(s, "a", plain, rev, want)
			x.fetch(s, 3, "a", plain, want)
			x.fetch(s, 2, "a", "", api.ErrDenied)
		}
	}
	same("", 0, api.ErrNone)
	x.does(0, put("a", "one", 0), 1, api.OK)
	same("one", 1, api.OK)
	x.does(1, put("a", "two", 1), 2, api.OK)
	same("two", 2, api.OK)
	x.does(1, put("a", "", 2), 3, api.OK)
	same("", 3, api.OK)
	x.does(0, gone("a", 3), 4, api.OK)
	same("", 0, api.ErrNone)
	x.plant("a", 1, api.OK)
	same("one", 5, api.OK)
	x.does(0, put("b", "three", 0), 6, api.OK)
	x.plant("a", 6, api.OK)
	same("", 0, api.ErrSealed)
	x.plant("a", 2, api.OK)
	x.turn(2, 2)
	same("two", 8, api.OK)
	x.migrate(20, 2, api.OK)
	same("two", 9, api.OK)
	x.compact(10, api.OK)
	x.gate(api.OK)
	x.destroy(1, api.OK)
	same("two", 9, api.OK)
	x.crash(1, api.OK)
	x.fetch(1, 3, "a", "", api.ErrBlind)
	x.fetch(1, 2, "a", "", api.ErrDenied)
	x.fetch(0, 3, "a", "two", api.OK)
}

// Pods, nodes and reads by them touch neither entries nor servers nor the state.
func TestPodsChangeNothingElse(t *testing.T) {
	x := withSecrets(t, "a")
	x.begin(0, put("a", "two", 1), api.OK)
	state, entries := x.State(), x.Entries()
	for pod := range api.MaxPods {
		x.place(pod, 1, api.OK)
		x.refer(pod, "a", true, api.OK)
		x.fetch(0, 1, "a", "a!", api.OK)
		x.fetch(1, 1, "a", "a!", api.OK)
		x.fetch(1, 0, "a", "", api.ErrDenied)
		x.refer(pod, "a", false, api.OK)
		x.place(pod, -1, api.OK)
	}
	x.state(state)
	x.entries(entries...)
	x.begin(0, put("a", "two", 1), api.ErrBusy)
	x.commit(0, 2, api.OK)
	// No draw was made by them.
	x.entries(secret("a", "a!", 1, 1), secret("a", "two", 2, 2))
}

// Pods stay where they are, and need what they need, whatever the store does.
func TestPodsStay(t *testing.T) {
	x := withSecrets(t, "a")
	x.place(0, 1, api.OK)
	x.refer(0, "a", true, api.OK)
	x.does(0, gone("a", 1), 2, api.OK)
	x.compact(2, api.OK)
	x.fetch(0, 1, "a", "", api.ErrNone)
	x.crash(0, api.OK)
	x.crash(1, api.OK)
	x.fetch(0, 1, "a", "", api.ErrBlind)
	x.refresh(0, api.OK)
	x.does(0, put("a", "a!", 0), 3, api.OK)
	x.gets("a", 1)
}

// P2: the pods of two coffers are not the same.
func TestPodsApart(t *testing.T) {
	x, y := withSecrets(t, "a", "b"), withSecrets(t, "a", "b")
	x.place(0, 0, api.OK)
	x.refer(0, "a", true, api.OK)
	y.gets("a")
	y.place(0, 0, api.OK)
	y.gets("a")
	y.refer(0, "b", true, api.OK)
	y.gets("b", 0)
	x.gets("b")
	x.gets("a", 0)
	y.place(0, -1, api.OK)
	x.gets("a", 0)
	for _, path := range pathsOf(8)[1:] {
		x.refer(0, path, true, api.OK)
	}
	x.refer(0, "z", true, api.ErrMany)
	y.refer(0, "z", true, api.OK)
}

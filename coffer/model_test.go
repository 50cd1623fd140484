package coffer_test

import (
	"math"
	"math/rand"
	"slices"
	"strings"
	"testing"

	"coffer/api"
)

// model does what P6 to P14 say, in the plainest way, with secrets in the open: of each path all that was ever committed, and from which revision on it may be asked for.
type model struct {
	room, rev, floor, draws int
	turn                    int
	writers                 []int  // of each epoch, from 0 on, the key that wrote when it came
	promoted                int    // the epoch of the last Promote; 0, if there was none
	destroyed               []bool // of each key: that of number k at k - 1
	seen                    []int
	under                   []*deed
	deeds                   []deed // all that were committed: that of revision r at r - 1
	givenUp                 []bool
	nodes                   [8]int             // of each pod
	needs                   [8]map[string]bool // of each pod
}

// deed is an operation, or what Plant made of one.
type deed struct {
	op               api.Op
	epoch, key, draw int
	sealedFor        string // the path that it was sealed with
}

// opens tells whether it lies under the path that it was sealed with.
func (d deed) opens() bool { return d.sealedFor == d.op.Path }

func newModel(servers, room int) *model {
	m := &model{room: room, turn: api.Still, writers: []int{0, 1}, destroyed: []bool{false}, seen: make([]int, servers), under: make([]*deed, servers)}
	for pod := range m.nodes {
		m.nodes[pod] = -1
		m.needs[pod] = map[string]bool{}
	}
	return m
}

func (m *model) epoch() int { return len(m.writers) - 1 }

func (m *model) write() int { return m.writers[m.epoch()] }

func (m *model) state() api.State {
	return api.State{Rev: m.rev, Floor: m.floor, Epoch: m.epoch(), Write: m.write(), Turn: m.turn}
}

func (m *model) isServer(s int) bool { return slices.Contains([]int{0, 1, 2, 3}[:len(m.seen)], s) }

func (m *model) entries() []api.Entry {
	var list []api.Entry
	for i, d := range m.deeds {
		switch {
		case m.givenUp[i]:
		case d.op.Kind == api.Put:
			list = append(list, planted(sealedBy(d.key, d.sealedFor, d.op.Plain, 0, d.draw), d.op.Path, i+1))
		default:
			list = append(list, deletion(d.op.Path, i+1))
		}
	}
	return list
}

// at gives what a path held at a revision, and since when; 0, if nothing.
func (m *model) at(path string, rev int) (string, int) {
	for r := rev; r > 0; r-- {
		if d := m.deeds[r-1]; d.op.Path == path {
			if d.op.Kind == api.Delete {
				return "", 0
			}
			return d.op.Plain, r
		}
	}
	return "", 0
}

func (m *model) begin(s int, op api.Op) api.Errno {
	switch {
	case !m.isServer(s):
		return api.ErrServer
	case m.under[s] != nil:
		return api.ErrBusy
	case m.seen[s] == 0:
		return api.ErrBlind
	case op.Kind != api.Put && op.Kind != api.Delete, len(op.Path) == 0, len(op.Path) > 16, len(op.Plain) > 64, op.Kind == api.Delete && op.Plain != "", op.Rev < -1:
		return api.ErrOp
	}
	d := &deed{op: op, epoch: m.seen[s], sealedFor: op.Path}
	if op.Kind == api.Put {
		d.key = m.writers[m.seen[s]]
		if m.destroyed[d.key-1] {
			return api.ErrGone
		}
		m.draws++
		d.draw = m.draws
	}
	m.under[s] = d
	return api.OK
}

func (m *model) commit(s int) (int, api.Errno) {
	if !m.isServer(s) {
		return 0, api.ErrServer
	}
	d := m.under[s]
	if d == nil {
		return 0, api.ErrIdle
	}
	m.under[s] = nil
	_, rev := m.at(d.op.Path, m.rev)
	switch {
	case d.epoch < m.promoted:
		return 0, api.ErrStale
	case d.op.Rev != -1 && d.op.Rev != rev:
		return 0, api.ErrConflict
	case d.op.Kind == api.Delete && rev == 0:
		return 0, api.ErrNone
	case len(m.entries()) == m.room:
		return 0, api.ErrFull
	}
	m.add(*d)
	return m.rev, api.OK
}

func (m *model) add(d deed) {
	m.rev++
	m.deeds = append(m.deeds, d)
	m.givenUp = append(m.givenUp, false)
}

// get knows neither ErrKey nor ErrGone: no read ever answers them (P15).
func (m *model) get(s int, path string, rev int, atRev bool) (string, int, api.Errno) {
	switch {
	case !m.isServer(s):
		return "", 0, api.ErrServer
	case m.seen[s] == 0:
		return "", 0, api.ErrBlind
	case atRev && (rev < m.floor || rev > m.rev):
		return "", 0, api.ErrRev
	}
	if !atRev {
		rev = m.rev
	}
	plain, since := m.at(path, rev)
	if since == 0 {
		return "", 0, api.ErrNone
	}
	if !m.deeds[since-1].opens() {
		return "", 0, api.ErrSealed
	}
	return plain, since, api.OK
}

func (m *model) compact(rev int) api.Errno {
	if rev <= m.floor || rev > m.rev {
		return api.ErrRev
	}
	m.floor = rev
	for i, d := range m.deeds[:rev] {
		// A deed is given up if a later one of the path takes its place by then, or if it left nothing.
		_, since := m.at(d.op.Path, rev)
		m.givenUp[i] = since != i+1
	}
	return api.OK
}

func (m *model) stage(text string) (int, api.Errno) {
	switch {
	case len(text) != 48:
		return 0, api.ErrArg
	case len(m.destroyed) == 6:
		return 0, api.ErrMany
	case m.turn != api.Still:
		return 0, api.ErrTurn
	}
	m.destroyed = append(m.destroyed, false)
	m.writers = append(m.writers, m.write())
	m.turn = api.Staged
	return len(m.destroyed), api.OK
}

func (m *model) promote() api.Errno {
	switch {
	case m.turn != api.Staged:
		return api.ErrTurn
	case slices.Min(m.seen) != m.epoch():
		return api.ErrWait
	}
	m.writers = append(m.writers, len(m.destroyed))
	m.promoted = m.epoch()
	m.turn = api.Promoted
	return api.OK
}

// old gives the paths that are to be moved, in order.
func (m *model) old() []string {
	var paths []string
	for i, d := range m.deeds {
		if _, since := m.at(d.op.Path, m.rev); since == i+1 && d.key != m.write() && d.opens() {
			paths = append(paths, d.op.Path)
		}
	}
	slices.Sort(paths)
	return paths
}

func (m *model) migrate(n int) (int, api.Errno) {
	switch {
	case n < 0 || n > 20:
		return 0, api.ErrArg
	case m.turn != api.Promoted && m.turn != api.Gated:
		return 0, api.ErrTurn
	}
	paths := m.old()
	for i, path := range paths[:min(n, len(paths))] {
		if len(m.entries()) == m.room {
			return i, api.ErrFull
		}
		plain, _ := m.at(path, m.rev)
		m.draws++
		m.add(deed{op: put(path, plain, -1), key: m.write(), draw: m.draws, sealedFor: path})
	}
	return min(n, len(paths)), api.OK
}

func (m *model) gate() api.Errno {
	if m.turn != api.Promoted && m.turn != api.Gated {
		return api.ErrTurn
	}
	for i, d := range m.deeds {
		if !m.givenUp[i] && d.op.Kind == api.Put && d.key != m.write() {
			return api.ErrUsed
		}
	}
	m.turn = api.Gated
	return api.OK
}

func (m *model) destroy(k int) api.Errno {
	switch {
	case k < 1 || k > len(m.destroyed):
		return api.ErrNone
	case m.destroyed[k-1]:
		return api.ErrGone
	case k == m.write() || m.turn != api.Gated:
		return api.ErrGate
	}
	m.destroyed[k-1] = true
	left := 0
	for _, d := range m.destroyed {
		if !d {
			left++
		}
	}
	if left == 1 {
		m.turn = api.Still
	}
	return api.OK
}

func (m *model) plant(path string, rev int) api.Errno {
	switch {
	case len(path) == 0, len(path) > 16:
		return api.ErrOp
	case rev < 1, rev > m.rev, m.givenUp[rev-1], m.deeds[rev-1].op.Kind == api.Delete:
		return api.ErrNone
	case len(m.entries()) == m.room:
		return api.ErrFull
	}
	d := m.deeds[rev-1]
	d.op.Path = path
	m.add(d)
	if m.turn == api.Gated {
		m.turn = api.Promoted
	}
	return api.OK
}

func (m *model) place(pod, node int) api.Errno {
	if pod < 0 || pod > 7 || node < -1 || node > 3 {
		return api.ErrArg
	}
	m.nodes[pod] = node
	return api.OK
}

func (m *model) refer(pod int, path string, on bool) api.Errno {
	switch {
	case pod < 0, pod > 7, len(path) == 0, len(path) > 16:
		return api.ErrArg
	case on && !m.needs[pod][path] && len(m.needs[pod]) == 8:
		return api.ErrMany
	case on:
		m.needs[pod][path] = true
	default:
		delete(m.needs[pod], path)
	}
	return api.OK
}

func (m *model) fetch(s, node int, path string) (string, api.Errno) {
	switch {
	case !m.isServer(s):
		return "", api.ErrServer
	case node < 0 || node > 3:
		return "", api.ErrArg
	}
	for pod := range m.nodes {
		if m.nodes[pod] == node && m.needs[pod][path] {
			plain, _, e := m.get(s, path, 0, false)
			return plain, e
		}
	}
	return "", api.ErrDenied
}

// luck chooses arguments: mostly right ones, at times wrong ones.
type luck struct{ *rand.Rand }

func (l luck) server(servers int) int {
	if l.Intn(20) == 0 {
		return []int{-1, servers, math.MaxInt, math.MinInt}[l.Intn(4)]
	}
	return l.Intn(servers)
}

func (l luck) path() string {
	if l.Intn(30) == 0 {
		return []string{"", strings.Repeat("a", 17), strings.Repeat("\x00", 300)}[l.Intn(3)]
	}
	return []string{"a", "ab", "b", "a\x00", "\xff", strings.Repeat("a", 16)}[l.Intn(6)]
}

// need chooses what a pod may need: of more paths than a pod can have.
func (l luck) need() string {
	if l.Intn(2) == 0 {
		return l.path()
	}
	return counting('0'+l.Intn(10), 1)
}

// upTo chooses a number of 0 to n - 1, at times a wrong one.
func (l luck) upTo(n int) int {
	if l.Intn(15) == 0 {
		return []int{-2, -1, n, n + 1, math.MaxInt, math.MinInt}[l.Intn(6)]
	}
	return l.Intn(n)
}

func (l luck) rev(last int) int {
	switch l.Intn(10) {
	case 0:
		return []int{-2, -1, last + 1, math.MaxInt, math.MinInt}[l.Intn(5)]
	default:
		return l.Intn(last + 1)
	}
}

func (l luck) op(m *model) api.Op {
	op := api.Op{Kind: api.Put, Path: l.path(), Rev: -1}
	if l.Intn(4) == 0 {
		op.Kind = api.Delete
	}
	if l.Intn(30) == 0 {
		op.Kind = []int{0, 3, -1, math.MaxInt, math.MinInt}[l.Intn(5)]
	}
	if op.Kind != api.Delete || l.Intn(20) == 0 {
		op.Plain = counting(l.Intn(256), l.Intn(66))
	}
	switch l.Intn(3) {
	case 0:
		_, op.Rev = m.at(op.Path, m.rev)
	case 1:
		op.Rev = l.rev(m.rev)
	}
	return op
}

// step makes one call that servers make, or Compact, of the coffer and of the model, and compares the answers.
func step(x book, m *model, l luck) {
	x.t.Helper()
	s := l.server(len(m.seen))
	switch l.Intn(14) {
	case 0, 1:
		if m.isServer(s) {
			m.seen[s] = m.epoch()
			x.refresh(s, api.OK)
		} else {
			x.refresh(s, api.ErrServer)
		}
	case 2:
		if l.Intn(3) != 0 {
			return
		}
		if m.isServer(s) {
			m.seen[s] = 0
			m.under[s] = nil
			x.crash(s, api.OK)
		} else {
			x.crash(s, api.ErrServer)
		}
	case 3, 4, 5:
		op := l.op(m)
		x.begin(s, op, m.begin(s, op))
	case 6, 7, 8:
		rev, e := m.commit(s)
		x.commit(s, rev, e)
	case 9, 10:
		path := l.path()
		plain, rev, e := m.get(s, path, 0, false)
		x.get(s, path, plain, rev, e)
	case 11, 12:
		path, at := l.path(), l.rev(m.rev)
		plain, rev, e := m.get(s, path, at, true)
		x.getAt(s, path, at, plain, rev, e)
	case 13:
		rev := l.rev(m.rev)
		x.compact(rev, m.compact(rev))
	}
}

// turnStep makes one call that turns the key, or what such calls wait for, of both, and compares the answers.
func turnStep(x book, m *model, l luck) {
	x.t.Helper()
	switch l.Intn(8) {
	case 0:
		text := keyText(len(m.destroyed) + 1)
		if l.Intn(8) == 0 {
			wrong := noKeys()
			text = wrong[l.Intn(len(wrong))]
		}
		number, e := m.stage(text)
		if got, ge := x.Stage(text); got != number || ge != e {
			x.t.Fatalf("P11: Stage of %d bytes = %d, %d, want %d, %d", len(text), got, ge, number, e)
		}
	case 1:
		x.promote(m.promote())
	case 2:
		n := l.Intn(api.MaxMove + 1)
		if l.Intn(8) == 0 {
			n = wrongMoves[l.Intn(len(wrongMoves))]
		}
		moved, e := m.migrate(n)
		x.migrate(n, moved, e)
	case 3:
		x.gate(m.gate())
	case 4, 5:
		k := m.write() - 1
		if l.Intn(2) == 0 {
			k = l.Intn(api.MaxKeys+3) - 1
		}
		x.destroy(k, m.destroy(k))
	case 6:
		for s := range m.seen {
			m.seen[s] = m.epoch()
			x.refresh(s, api.OK)
		}
	case 7:
		x.compact(m.rev, m.compact(m.rev))
	}
}

// podStep makes one call about pods of both, and compares the answers.
func podStep(x book, m *model, l luck) {
	x.t.Helper()
	pod := l.upTo(api.MaxPods)
	if l.Intn(2) == 0 {
		pod = 3 // so that one has its fill at times
	}
	path := l.need()
	switch l.Intn(8) {
	case 0:
		node := l.upTo(api.MaxNodes)
		x.place(pod, node, m.place(pod, node))
	case 1, 2, 3, 4:
		on := l.Intn(5) != 0
		x.refer(pod, path, on, m.refer(pod, path, on))
	default:
		s, node := l.server(len(m.seen)), l.upTo(api.MaxNodes)
		plain, e := m.fetch(s, node, path)
		x.fetch(s, node, path, plain, e)
	}
}

// plantStep makes a call of Plant of both, and compares the answers. Mostly the path is one that is not the entry's own.
func plantStep(x book, m *model, l luck) {
	x.t.Helper()
	path, rev := l.path(), l.rev(m.rev)
	if rev > 0 && rev <= m.rev && l.Intn(3) == 0 {
		path = m.deeds[rev-1].sealedFor
	}
	x.plant(path, rev, m.plant(path, rev))
}

// anyStep makes one call of both; Plant in one of so many, in none if that is 0.
func anyStep(x book, m *model, l luck, often, plants int) {
	x.t.Helper()
	switch {
	case plants > 0 && l.Intn(plants) == 0:
		plantStep(x, m, l)
	case l.Intn(often) < 3:
		turnStep(x, m, l)
	case l.Intn(6) == 0:
		podStep(x, m, l)
	default:
		step(x, m, l)
	}
}

// TestAgainstModel makes drawn calls, right and wrong ones, and looks at everything after each.
func TestAgainstModel(t *testing.T) {
	l := luck{rand.New(rand.NewSource(10))}
	turned := [2]int{} // of the coffers without Plant, and with it
	for n := range 240 {
		servers, room := 1+l.Intn(api.MaxServers), 1+l.Intn(api.MaxRoom)
		if l.Intn(2) == 0 {
			room = 1 + l.Intn(6)
		}
		often := []int{5, 10, 40}[l.Intn(3)]
		plants := 0
		if n%2 == 1 {
			plants = []int{10, 50, 200}[l.Intn(3)]
		}
		x := blind(t, servers, room)
		m := newModel(servers, room)
		watch := newWatch(x, plants > 0)
		for range 500 {
			anyStep(x, m, l, often, plants)
			x.state(m.state())
			x.entries(m.entries()...)
			watch.look(m.destroyed)
		}
		if m.destroyed[0] {
			turned[n%2]++
		}
	}
	if turned[0] < 40 || turned[1] < 20 {
		t.Errorf("only %d of 240 coffers were turned: the draws look at too little", turned)
	}
}

package coffer_test

import (
	"math"
	"math/rand"
	"slices"
	"strings"
	"testing"

	"coffer/api"
)

// model does what P6 to P10 say, in the plainest way, with secrets in the open: of each path all that was ever committed, and from which revision on it may be asked for.
type model struct {
	room, rev, floor, draws int
	seen                    []bool
	under                   []*deed
	deeds                   []deed // all that were committed: that of revision r at r - 1
	givenUp                 []bool
}

type deed struct {
	op   api.Op
	draw int
}

func (m *model) isServer(s int) bool { return slices.Contains([]int{0, 1, 2, 3}[:len(m.seen)], s) }

func (m *model) entries() []api.Entry {
	var list []api.Entry
	for i, d := range m.deeds {
		switch {
		case m.givenUp[i]:
		case d.op.Kind == api.Put:
			list = append(list, secret(d.op.Path, d.op.Plain, i+1, d.draw))
		default:
			list = append(list, deletion(d.op.Path, i+1))
		}
	}
	return list
}

// at gives what a path held at a revision, and since when; 0, if nothing.
func (m *model) at(path string, rev int) (string, int) {
	for r := rev; r > 0; r-- {
		if d := m.deeds[r-1]; d.op.Path == path {
			if d.op.Kind == api.Delete {
				return "", 0
			}
			return d.op.Plain, r
		}
	}
	return "", 0
}

func (m *model) begin(s int, op api.Op) api.Errno {
	switch {
	case !m.isServer(s):
		return api.ErrServer
	case m.under[s] != nil:
		return api.ErrBusy
	case !m.seen[s]:
		return api.ErrBlind
	case op.Kind != api.Put && op.Kind != api.Delete, len(op.Path) == 0, len(op.Path) > 16, len(op.Plain) > 64, op.Kind == api.Delete && op.Plain != "", op.Rev < -1:
		return api.ErrOp
	}
	m.under[s] = &deed{op: op}
	if op.Kind == api.Put {
		m.draws++
		m.under[s].draw = m.draws
	}
	return api.OK
}

func (m *model) commit(s int) (int, api.Errno) {
	if !m.isServer(s) {
		return 0, api.ErrServer
	}
	d := m.under[s]
	if d == nil {
		return 0, api.ErrIdle
	}
	m.under[s] = nil
	_, rev := m.at(d.op.Path, m.rev)
	switch {
	case d.op.Rev != -1 && d.op.Rev != rev:
		return 0, api.ErrConflict
	case d.op.Kind == api.Delete && rev == 0:
		return 0, api.ErrNone
	case len(m.entries()) == m.room:
		return 0, api.ErrFull
	}
	m.rev++
	m.deeds = append(m.deeds, *d)
	m.givenUp = append(m.givenUp, false)
	return m.rev, api.OK
}

func (m *model) get(s int, path string, rev int, atRev bool) (string, int, api.Errno) {
	switch {
	case !m.isServer(s):
		return "", 0, api.ErrServer
	case !m.seen[s]:
		return "", 0, api.ErrBlind
	case atRev && (rev < m.floor || rev > m.rev):
		return "", 0, api.ErrRev
	}
	if !atRev {
		rev = m.rev
	}
	plain, since := m.at(path, rev)
	if since == 0 {
		return "", 0, api.ErrNone
	}
	return plain, since, api.OK
}

func (m *model) compact(rev int) api.Errno {
	if rev <= m.floor || rev > m.rev {
		return api.ErrRev
	}
	m.floor = rev
	for i, d := range m.deeds[:rev] {
		// A deed is given up if a later one of the path takes its place by then, or if it left nothing.
		_, since := m.at(d.op.Path, rev)
		m.givenUp[i] = since != i+1
	}
	return api.OK
}

// luck chooses arguments: mostly right ones, at times wrong ones.
type luck struct{ *rand.Rand }

func (l luck) server(servers int) int {
	if l.Intn(20) == 0 {
		return []int{-1, servers, math.MaxInt, math.MinInt}[l.Intn(4)]
	}
	return l.Intn(servers)
}

func (l luck) path() string {
	if l.Intn(30) == 0 {
		return []string{"", strings.Repeat("a", 17), strings.Repeat("\x00", 300)}[l.Intn(3)]
	}
	return []string{"a", "ab", "b", "a\x00", "\xff", strings.Repeat("a", 16)}[l.Intn(6)]
}

func (l luck) rev(last int) int {
	switch l.Intn(10) {
	case 0:
		return []int{-2, -1, last + 1, math.MaxInt, math.MinInt}[l.Intn(5)]
	default:
		return l.Intn(last + 1)
	}
}

func (l luck) op(m *model) api.Op {
	op := api.Op{Kind: api.Put, Path: l.path(), Rev: -1}
	if l.Intn(4) == 0 {
		op.Kind = api.Delete
	}
	if l.Intn(30) == 0 {
		op.Kind = []int{0, 3, -1, math.MaxInt, math.MinInt}[l.Intn(5)]
	}
	if op.Kind != api.Delete || l.Intn(20) == 0 {
		op.Plain = counting(l.Intn(256), l.Intn(66))
	}
	switch l.Intn(3) {
	case 0:
		_, op.Rev = m.at(op.Path, m.rev)
	case 1:
		op.Rev = l.rev(m.rev)
	}
	return op
}

// step makes one call of the coffer and of the model, and compares the answers.
func step(x book, m *model, l luck) {
	x.t.Helper()
	s := l.server(len(m.seen))
	switch l.Intn(14) {
	case 0, 1:
		if m.isServer(s) {
			m.seen[s] = true
			x.refresh(s, api.OK)
		} else {
			x.refresh(s, api.ErrServer)
		}
	case 2:
		if l.Intn(3) != 0 {
			return
		}
		if m.isServer(s) {
			m.seen[s] = false
			m.under[s] = nil
			x.crash(s, api.OK)
		} else {
			x.crash(s, api.ErrServer)
		}
	case 3, 4, 5:
		op := l.op(m)
		x.begin(s, op, m.begin(s, op))
	case 6, 7, 8:
		rev, e := m.commit(s)
		x.commit(s, rev, e)
	case 9, 10:
		path := l.path()
		plain, rev, e := m.get(s, path, 0, false)
		x.get(s, path, plain, rev, e)
	case 11, 12:
		path, at := l.path(), l.rev(m.rev)
		plain, rev, e := m.get(s, path, at, true)
		x.getAt(s, path, at, plain, rev, e)
	case 13:
		rev := l.rev(m.rev)
		x.compact(rev, m.compact(rev))
	}
}

// TestAgainstModel makes drawn calls, right and wrong ones, and looks at everything after each.
func TestAgainstModel(t *testing.T) {
	l := luck{rand.New(rand.NewSource(10))}
	for range 150 {
		servers, room := 1+l.Intn(api.MaxServers), 1+l.Intn(api.MaxRoom)
		if l.Intn(2) == 0 {
			room = 1 + l.Intn(6)
		}
		x := blind(t, servers, room)
		m := &model{room: room, seen: make([]bool, servers), under: make([]*deed, servers)}
		for range 250 {
			step(x, m, l)
			x.state(api.State{Rev: m.rev, Floor: m.floor, Epoch: 1, Write: 1, Turn: api.Still})
			x.entries(m.entries()...)
		}
	}
}

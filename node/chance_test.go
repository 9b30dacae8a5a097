package node_test

import (
	"math/big"
	"math/rand"
	"slices"
	"testing"

	"espalier/api"
	"espalier/circle"
	"espalier/letter"
	"espalier/node"
	"espalier/table"
	"espalier/walk"
)

// A maker makes nodes, and letters to them, by chance, of so few addresses and places that they often meet.
type maker struct{ *rand.Rand }

func newMaker(seed int64) maker { return maker{rand.New(rand.NewSource(seed))} }

func oneOf[T any](m maker, l ...T) T { return l[m.Intn(len(l))] }

// often tells true so many times of ten.
func (m maker) often(n int) bool { return m.Intn(10) < n }

func (m maker) addr() int {
	return oneOf(m, 0, 1, 2, 3, 4, 5, 6, 7, 8, 9, 44, 998, 999)
}

// place is one near another one, or at the place of a finger of its.
func (m maker) place(self api.ID) api.ID {
	if m.often(1) {
		return finger(self, 150+m.Intn(10))
	}
	from := new(big.Int).SetBytes(self[:])
	return place(from.Add(from, big.NewInt(int64(m.Intn(40)-10))))
}

func (m maker) peer(self api.Peer) api.Peer {
	return api.Peer{Addr: m.addr(), ID: m.place(self.ID)}
}

func (m maker) other(self api.Peer) api.Peer {
	for {
		if p := m.peer(self); p.Addr != self.Addr && p.ID != self.ID {
			return p
		}
	}
}

func (m maker) table() api.Table {
	t := bare(api.Peer{Addr: m.addr(), ID: oneOf(m, small(0), small(10), last, finger(small(0), 159))})
	if m.often(7) {
		t.Pred = m.other(t.Self)
	}
	for range oneOf(m, 0, 0, 1, 1, 2, 3, 4, 8) {
		p := m.other(t.Self)
		if !slices.ContainsFunc(t.Succ, func(q api.Peer) bool { return p.Addr == q.Addr }) {
			t.Succ = append(t.Succ, p)
		}
	}
	if len(t.Succ) > 0 && m.often(2) {
		t.Pred = oneOf(m, t.Succ...)
	}
	for range oneOf(m, 0, 0, 1, 2, 5) {
		k := oneOf(m, 0, 1, 2, 3, 4, 5, 60, 159)
		for range 1 + m.Intn(4) {
			if k < 160 {
				t.Fingers[k] = m.other(t.Self)
				k++
			}
		}
	}
	return t
}

// asked is nobody, one that is known, or any.
func (m maker) asked(t api.Table) int {
	addr := oneOf(m, -1, table.First(t).Addr, t.Pred.Addr, m.addr(), m.addr())
	if addr == t.Self.Addr {
		return -1
	}
	return addr
}

func (m maker) req() uint64 { return oneOf[uint64](m, 0, 1, 2, greatest-1, greatest, 1<<40) }

func (m maker) avoid() []int {
	var l []int
	for range oneOf(m, 0, 0, 0, 1, 2, 3, 6, 14, 15, 16) {
		l = append(l, oneOf(m, m.addr(), m.addr(), m.Intn(1000)))
	}
	return l
}

func (m maker) node() api.Node {
	t := m.table()
	n := api.Node{Table: t, Copies: 1 + m.Intn(8), Joined: m.often(6), Boot: m.asked(t), AskTo: m.asked(t), PingTo: m.asked(t), FindTo: m.asked(t)}
	for !n.Joined && n.Boot == -1 {
		n.Boot = m.asked(t)
	}
	n.Req, n.AskReq, n.PingReq, n.FindReq, n.FindID = m.req(), m.req(), m.req(), m.req(), m.place(t.Self.ID)
	n.Cursor = oneOf(m, 0, 1, 2, 3, 4, 5, 6, 60, 158, 159, m.Intn(160))
	n.Hops = oneOf(m, 0, 1, 5, 30, 31, 32, 33, 63, 64)
	n.Turn = oneOf(m, 0, 1, 2, 3, 4, 5, 999998, 999999, m.Intn(1000000))
	n.Avoid = m.avoid()
	for i, p := range table.Known(t) {
		if i < len(n.Avoid) && m.often(3) {
			n.Avoid[i] = p.Addr
		}
	}
	if len(n.Avoid) > 0 && n.FindTo != -1 && m.often(2) {
		n.Avoid[m.Intn(len(n.Avoid))] = n.FindTo
	}
	return n
}

// letter is right, and often an answer that the node waits for.
func (m maker) letter(n api.Node) api.Letter {
	l := api.Letter{Kind: 1 + m.Intn(8), From: m.other(n.Table.Self), Peer: none()}
	waits := map[int]int{api.Found: n.FindTo, api.Told: n.AskTo, api.Pong: n.PingTo, api.Bye: oneOf(m, table.First(n.Table).Addr, n.Table.Pred.Addr)}
	if addr := waits[l.Kind]; m.often(8) && isAddr(addr) {
		l.From.Addr = addr
	}
	if m.often(1) {
		l.From = oneOf(m, n.Table.Self, m.peer(n.Table.Self))
	}
	reqs := map[int]uint64{api.Found: n.FindReq, api.Told: n.AskReq, api.Pong: n.PingReq}
	peerOf := func() api.Peer {
		return oneOf(m, m.other(n.Table.Self), m.other(n.Table.Self), m.peer(n.Table.Self), n.Table.Self, l.From, table.First(n.Table))
	}
	switch l.Kind {
	case api.Find:
		l.Req, l.ID, l.Avoid = m.req(), m.place(n.Table.Self.ID), m.avoid()
		if m.often(5) {
			l.Avoid = nil
			for _, p := range table.Known(n.Table) {
				if m.often(9) && len(l.Avoid) < 16 {
					l.Avoid = append(l.Avoid, p.Addr)
				}
			}
		}
	case api.Found, api.Told, api.Pong:
		l.Req = reqs[l.Kind]
		if m.often(2) {
			l.Req = m.req()
		}
	case api.Ask, api.Ping:
		l.Req = m.req()
	}
	if l.Kind == api.Found || (l.Kind == api.Told || l.Kind == api.Bye) && m.often(7) {
		l.Peer = peerOf()
	}
	if l.Kind == api.Found {
		l.Done = m.often(5)
	}
	if l.Kind == api.Told || l.Kind == api.Bye {
		for range oneOf(m, 0, 1, 1, 2, 3, 5, 8) {
			l.Peers = append(l.Peers, oneOf(m, m.other(n.Table.Self), m.other(n.Table.Self), peerOf()))
		}
	}
	return l
}

// all are the cases by which an answer may come about.
var all = []string{
	"enter", "enter, FindTo -1", "enter, FindTo Boot", "enter, FindTo in Avoid", "enter, Avoid full",
	"stabilise", "stabilise, AskTo", "stabilise, Pred adopted", "stabilise, AskTo, Pred adopted", "stabilise, alone", "stabilise, AskTo, alone",
	"fix: not joined", "fix, done", "fix, nearest", "fix, FindTo, done", "fix, FindTo, nearest", "fix, FindTo, neither", "fix, FindTo in Avoid, done", "fix, FindTo in Avoid, nearest", "fix, FindTo in Avoid, neither",
	"fix, Avoid full, done", "fix, Avoid full, nearest", "fix, Avoid full, neither",
	"check", "check, PingTo", "check, none known", "check, PingTo, none known",
	"From is not another one", "asked, and not joined", "not asked for",
	"find: done", "find: nearest", "find: neither",
	"found: Self", "found: another one", "found: joins", "found: none, joined or not",
	"go on: not another one", "go on: in Avoid", "go on: From", "go on: too far", "go on",
	"ask", "told", "told, closer", "notify", "ping", "pong",
	"bye", "bye, Pred", "bye, First", "bye, First, no Peers", "bye, First, Peers", "bye, Pred, First", "bye, Pred, First, no Peers", "bye, Pred, First, Peers",
	"leave", "leave, First", "leave, Pred", "leave, First, Pred",
}

// TestByChance has nodes of any parts tick, take letters and leave; each case comes about.
func TestByChance(t *testing.T) {
	m := newMaker(1)
	met := map[string]int{}
	for range 25000 {
		n := m.node()
		if !isRight(n) || !node.Is(n) {
			t.Fatalf("P15.1: Is(%v): %t", n, node.Is(n))
		}
		_, _, what := holdTick(t, n, 1+m.Intn(3))
		met[what]++
		for range 3 {
			l := m.letter(n)
			if l.From.Addr == -1 || l.Peer.Addr == -1 && l.Kind == api.Found {
				continue
			}
			if !letter.Is(l) {
				t.Fatalf("%v is not right", l)
			}
			_, _, what = holdTake(t, n, l)
			met[what]++
		}
		_, what = holdLeave(t, n)
		met[what]++
	}
	for _, what := range all {
		if met[what] < 10 {
			t.Errorf("%q came about %d times", what, met[what])
		}
	}
}

// TestLives leads nodes through many ticks and letters, one behind the other.
func TestLives(t *testing.T) {
	m := newMaker(2)
	for range 150 {
		n := m.node()
		if m.often(5) {
			n, _ = node.Joining(m.other(at(44, 0)), 1+m.Intn(8), 44)
		}
		for range 150 {
			if m.often(3) {
				n, _, _ = holdTick(t, n, 1+m.Intn(3))
			} else if l := m.letter(n); letter.Is(l) {
				n, _, _ = holdTake(t, n, l)
			}
		}
		holdLeave(t, n)
	}
}

// TestWrongByChance turns some parts of nodes and letters, so that they are wrong in none, in one, or in several ways.
func TestWrongByChance(t *testing.T) {
	m := newMaker(3)
	set := parts()
	turns := []func(n *api.Node){
		func(n *api.Node) { n.Table.Self = m.peer(n.Table.Self) },
		func(n *api.Node) { n.Table.Self.Addr = oneOf(m, sizes...) },
		func(n *api.Node) { n.Table.Pred = m.peer(n.Table.Self) },
		func(n *api.Node) { n.Table.Succ = append(n.Table.Succ, m.peer(n.Table.Self)) },
		func(n *api.Node) { n.Table.Succ = append(n.Table.Succ, none()) },
		func(n *api.Node) { n.Table.Fingers = n.Table.Fingers[:m.Intn(len(n.Table.Fingers)+1)] },
		func(n *api.Node) { n.Joined = !n.Joined },
		func(n *api.Node) { n.Boot = -1 },
		func(n *api.Node) { n.Avoid = append(n.Avoid, oneOf(m, edges...)) },
	}
	right := map[bool]int{}
	for range 6000 {
		n := m.node()
		l := m.letter(n)
		for range m.Intn(3) {
			oneOf(m, turns...)(&n)
		}
		for range m.Intn(2) {
			oneOf(m, set...).set(&n, oneOf(m, append(edges, sizes...)...))
		}
		for range m.Intn(2) {
			l = oneOf(m, wrongLetters()...)
		}
		right[isRight(n) && letter.Is(l)]++
		holdRight(t, n)
		holdTick(t, n, m.Intn(5))
		holdTake(t, n, l)
		holdLeave(t, n)
	}
	if right[true] < 500 || right[false] < 500 {
		t.Errorf("so many are right, and not: %v", right)
	}
}

// A town is nodes by their addresses, and what is on its way between them.
type town struct {
	t     *testing.T
	r     int
	nodes map[int]api.Node
	mails []api.Send
}

func self(addr int) api.Peer {
	l, _ := circle.Of([]int{addr})
	return l[0]
}

func (w *town) live() []int {
	var l []int
	for addr := range w.nodes {
		l = append(l, addr)
	}
	slices.Sort(l)
	return l
}

func (w *town) join(addr, boot int) {
	n, e := node.Joining(self(addr), w.r, boot)
	if e != api.OK {
		w.t.Fatalf("P15.1: Joining: %d", e)
	}
	w.nodes[addr] = n
}

func (w *town) did(n api.Node, out []api.Send, e api.Errno) {
	if e != api.OK || !node.Is(n) || !isRight(n) {
		w.t.Fatalf("P15.5: %v, %d", n, e)
	}
	w.nodes[n.Table.Self.Addr] = n
	w.mails = append(w.mails, out...)
}

func (w *town) tick(addr, kind int) {
	n, out, e := node.Tick(w.nodes[addr], kind)
	w.did(n, out, e)
}

// deliver hands over the letter at a place, if its node is there still.
func (w *town) deliver(i int) {
	s := w.mails[i]
	w.mails = slices.Delete(w.mails, i, i+1)
	if !letter.Is(s.Letter) {
		w.t.Fatalf("P15.5: %v", s)
	}
	if n, is := w.nodes[s.To]; is {
		n, out, e := node.Take(n, s.Letter)
		w.did(n, out, e)
	}
}

func (w *town) round() {
	for _, addr := range w.live() {
		for _, kind := range []int{1, 3, 2} {
			w.tick(addr, kind)
			for len(w.mails) > 0 {
				w.deliver(0)
			}
		}
	}
}

func (w *town) settled() bool {
	l, _ := circle.Of(w.live())
	tables, _ := walk.Settled(l, w.r)
	for _, t := range tables {
		n := w.nodes[t.Self.Addr]
		if n.Table.Pred != t.Pred || !n.Joined || !slices.Equal(n.Table.Succ, t.Succ) || !slices.Equal(n.Table.Fingers, t.Fingers) {
			return false
		}
	}
	return true
}

func (w *town) settles(what string) {
	w.t.Helper()
	for range 400 {
		if w.settled() {
			w.round()
			if !w.settled() {
				w.t.Fatalf("P15.2: %s: a round behind it is not settled", what)
			}
			return
		}
		w.round()
	}
	w.t.Fatalf("P15.2: %s: not settled behind four hundred rounds", what)
}

// TestTown has nodes join, leave and go without a word, one after the other: all tables are settled again.
func TestTown(t *testing.T) {
	for seed := range int64(12) {
		m := newMaker(seed)
		w := &town{t: t, r: 2 + m.Intn(3), nodes: map[int]api.Node{}}
		first, _ := node.Alone(self(0), w.r)
		w.nodes[0] = first
		w.settles("alone")
		for range 6 {
			if addr := m.Intn(1000); w.nodes[addr].Copies == 0 {
				w.join(addr, oneOf(m, w.live()...))
				w.settles("join")
			}
		}
		for len(w.nodes) > 1 {
			addr := oneOf(m, w.live()...)
			if m.often(5) {
				out, e := node.Leave(w.nodes[addr])
				if e != api.OK || len(out) == 0 {
					t.Fatalf("P15.4: %v, %d", out, e)
				}
				w.mails = append(w.mails, out...)
			}
			delete(w.nodes, addr)
			w.settles("leave, or crash")
		}
	}
}

// TestWildTown has letters come late, twice, or not at all, while nodes come and go: all stay right, and so is what they send.
func TestWildTown(t *testing.T) {
	m := newMaker(9)
	w := &town{t: t, r: 3, nodes: map[int]api.Node{}}
	first, _ := node.Alone(self(0), w.r)
	w.nodes[0] = first
	for range 8000 {
		addr := oneOf(m, w.live()...)
		switch i := m.Intn(len(w.mails) + 1); {
		case i == len(w.mails) || m.often(3):
			w.tick(addr, 1+m.Intn(3))
		case m.often(1):
			w.mails = slices.Delete(w.mails, i, i+1)
		case m.often(1):
			w.mails = append(w.mails, w.mails[i])
		default:
			w.deliver(i)
		}
		if m.Intn(200) == 0 && len(w.nodes) < 8 {
			if fresh := m.Intn(20); w.nodes[fresh].Copies == 0 {
				w.join(fresh, addr)
			}
		}
		if m.Intn(400) == 0 && len(w.nodes) > 2 {
			out, _ := node.Leave(w.nodes[addr])
			w.mails = append(w.mails, out...)
			delete(w.nodes, addr)
		}
		if len(w.mails) > 300 {
			w.mails = w.mails[200:]
		}
	}
}

package node_test

import (
	"math/big"
	"slices"
	"testing"

	"espalier/api"
	"espalier/letter"
	"espalier/node"
	"espalier/table"
)

// What stands here says the document's words apart from the package: what a node is to answer. Of the chapters below only the exported functions are used, which have tests of their own.

func none() api.Peer { return api.Peer{Addr: -1} }

func isAddr(addr int) bool { return addr > -1 && addr < 1000 }

func isOther(n api.Node, p api.Peer) bool {
	return isAddr(p.Addr) && p.Addr != n.Table.Self.Addr && p.ID != n.Table.Self.ID
}

func isRight(n api.Node) bool {
	right := table.Is(n.Table) && len(n.Avoid) < 17
	for _, addr := range []int{n.Boot, n.AskTo, n.PingTo, n.FindTo} {
		right = right && (addr == -1 || isAddr(addr)) && addr != n.Table.Self.Addr
	}
	for _, addr := range n.Avoid {
		right = right && isAddr(addr)
	}
	for _, x := range [][3]int{{n.Copies, 1, 8}, {n.Cursor, 0, 159}, {n.Hops, 0, 64}, {n.Turn, 0, 999999}} {
		right = right && x[0] >= x[1] && x[0] <= x[2]
	}
	return right && (n.Joined || n.Boot != -1)
}

// A model does to a node what the words say, and keeps what is sent, and by which case.
type model struct {
	n    api.Node
	out  []api.Send
	what string
}

func (m *model) letter(to, kind int, parts func(l *api.Letter)) {
	l := api.Letter{Kind: kind, From: m.n.Table.Self, Peer: none()}
	parts(&l)
	m.out = append(m.out, api.Send{To: to, Letter: l})
}

func (m *model) request(to, kind int, parts func(l *api.Letter)) {
	if m.n.Req == greatest {
		m.n.Req = 0
	} else {
		m.n.Req = m.n.Req + 1
	}
	m.letter(to, kind, func(l *api.Letter) {
		parts(l)
		l.Req = m.n.Req
	})
}

func (m *model) seekOn(addr int) {
	m.n.FindTo = addr
	m.request(addr, api.Find, func(l *api.Letter) { l.ID, l.Avoid = m.n.FindID, slices.Clone(m.n.Avoid) })
	m.n.FindReq = m.n.Req
}

func (m *model) adopt(first api.Peer, rest ...api.Peer) {
	if t, e := table.Adopt(m.n.Table, first, rest, m.n.Copies); e == api.OK {
		m.n.Table = t
	}
}

func (m *model) answer() (api.Node, []api.Send, api.Errno, string) { return m.n, m.out, api.OK, m.what }

// place takes a number round the ring.
func place(n *big.Int) api.ID {
	var id api.ID
	n.Mod(n, new(big.Int).Lsh(big.NewInt(1), 160)).FillBytes(id[:])
	return id
}

// finger is what is two to the power of k clockwise from a place.
func finger(from api.ID, k int) api.ID {
	step := new(big.Int).Lsh(big.NewInt(1), uint(k))
	return place(step.Add(step, new(big.Int).SetBytes(from[:])))
}

// tickOf tells, beside what Tick is to answer, which case that was.
func tickOf(n api.Node, kind int) (api.Node, []api.Send, api.Errno, string) {
	if !isRight(n) || kind < 1 || kind > 3 {
		return api.Node{}, nil, api.ErrArg, "wrong"
	}
	m := &model{n: clone(n)}
	switch {
	case kind == 1 && n.Joined:
		m.stabilise()
	case kind == 1:
		m.enter()
	case kind == 2 && n.Joined:
		m.fix()
	case kind == 2:
		m.what = "fix: not joined"
	case kind == 3:
		m.check()
	}
	return m.answer()
}

func (m *model) enter() {
	m.what = "enter"
	to, in := m.n.FindTo, slices.Index(m.n.Avoid, m.n.FindTo) >= 0
	switch {
	case to == -1:
		m.what += ", FindTo -1"
	case to == m.n.Boot:
		m.what += ", FindTo Boot"
	case in:
		m.what += ", FindTo in Avoid"
	case len(m.n.Avoid) >= 16:
		m.what += ", Avoid full"
	default:
		m.n.Avoid = append(m.n.Avoid, to)
	}
	m.n.FindID, m.n.Hops = m.n.Table.Self.ID, 0
	m.seekOn(m.n.Boot)
}

func (m *model) stabilise() {
	m.what = "stabilise"
	if m.n.AskTo != -1 {
		m.what += ", AskTo"
		m.n.Table, m.n.AskTo = table.Forget(m.n.Table, m.n.AskTo), -1
	}
	if len(m.n.Table.Succ) == 0 && m.n.Table.Pred != none() {
		m.what += ", Pred adopted"
		m.adopt(m.n.Table.Pred)
	}
	if len(m.n.Table.Succ) == 0 {
		m.what += ", alone"
		return
	}
	m.n.AskTo = m.n.Table.Succ[0].Addr
	m.request(m.n.AskTo, api.Ask, func(*api.Letter) {})
	m.n.AskReq = m.n.Req
}

func (m *model) fix() {
	m.what = "fix"
	if m.n.FindTo == -1 {
		m.n.Avoid = nil
	} else {
		if in := slices.Index(m.n.Avoid, m.n.FindTo) >= 0; in {
			m.what += ", FindTo in Avoid"
		} else if len(m.n.Avoid) < 16 {
			m.what += ", FindTo"
			m.n.Avoid = append(m.n.Avoid, m.n.FindTo)
		} else {
			m.what += ", Avoid full"
		}
		m.n.Table, m.n.FindTo = table.Forget(m.n.Table, m.n.FindTo), -1
	}
	id := finger(m.n.Table.Self.ID, m.n.Cursor)
	first, done := table.Done(m.n.Table, id)
	next, had := table.Nearest(m.n.Table, id, m.n.Avoid)
	switch {
	case done:
		m.what += ", done"
		m.point(first)
	case had:
		m.what += ", nearest"
		m.n.FindID, m.n.Hops = id, 0
		m.seekOn(next.Addr)
	default:
		m.what += ", neither"
		m.n.Cursor = 0
	}
}

func (m *model) point(p api.Peer) {
	if t, cursor, e := table.Point(m.n.Table, m.n.Cursor, p); e == api.OK {
		m.n.Table, m.n.Cursor = t, cursor
	}
}

func (m *model) check() {
	m.what = "check"
	if m.n.PingTo != -1 {
		m.what += ", PingTo"
		m.n.Table, m.n.PingTo = table.Forget(m.n.Table, m.n.PingTo), -1
	}
	known := table.Known(m.n.Table)
	if len(known) == 0 {
		m.what += ", none known"
		return
	}
	m.n.PingTo = known[m.n.Turn%len(known)].Addr
	m.request(m.n.PingTo, api.Ping, func(*api.Letter) {})
	m.n.PingReq = m.n.Req
	if m.n.Turn++; m.n.Turn == 1000000 {
		m.n.Turn = 0
	}
}

// takeOf tells, beside what Take is to answer, which case that was.
func takeOf(n api.Node, l api.Letter) (api.Node, []api.Send, api.Errno, string) {
	if !isRight(n) || !letter.Is(l) {
		return api.Node{}, nil, api.ErrArg, "wrong"
	}
	m := &model{n: clone(n)}
	asked := func(to int, req uint64) bool { return l.From.Addr == to && l.Req == req }
	switch {
	case !isOther(n, l.From):
		m.what = "From is not another one"
	case !n.Joined && (l.Kind == api.Find || l.Kind == api.Ask):
		m.what = "asked, and not joined"
	case l.Kind == api.Find:
		m.find(l)
	case l.Kind == api.Found && !asked(n.FindTo, n.FindReq), l.Kind == api.Told && !asked(n.AskTo, n.AskReq), l.Kind == api.Pong && !asked(n.PingTo, n.PingReq):
		m.what = "not asked for"
	case l.Kind == api.Found && l.Done:
		m.done(l)
	case l.Kind == api.Found:
		m.goOn(l)
	case l.Kind == api.Ask:
		m.what = "ask"
		m.letter(l.From.Addr, api.Told, func(a *api.Letter) { a.Req, a.Peer, a.Peers = l.Req, n.Table.Pred, n.Table.Succ })
	case l.Kind == api.Told:
		m.told(l)
	case l.Kind == api.Notify:
		m.what = "notify"
		m.n.Table = table.Learn(m.n.Table, l.From)
	case l.Kind == api.Ping:
		m.what = "ping"
		m.letter(l.From.Addr, api.Pong, func(a *api.Letter) { a.Req = l.Req })
	case l.Kind == api.Pong:
		m.what = "pong"
		m.n.PingTo = -1
	case l.Kind == api.Bye:
		m.bye(l)
	}
	return m.answer()
}

func (m *model) find(l api.Letter) {
	first, done := table.Done(m.n.Table, l.ID)
	next, had := table.Nearest(m.n.Table, l.ID, l.Avoid)
	m.letter(l.From.Addr, api.Found, func(a *api.Letter) {
		a.Req = l.Req
		switch {
		case done:
			m.what = "find: done"
			a.Done, a.Peer = true, first
		case had:
			m.what = "find: nearest"
			a.Peer = next
		default:
			m.what = "find: neither"
			a.Done, a.Peer = true, first
		}
	})
}

func (m *model) done(l api.Letter) {
	m.n.FindTo = -1
	other := isOther(m.n, l.Peer)
	switch {
	case m.n.Joined && l.Peer == m.n.Table.Self:
		m.what = "found: Self"
		m.point(l.Peer)
	case m.n.Joined && other:
		m.what = "found: another one"
		m.point(l.Peer)
	case other:
		m.what = "found: joins"
		m.adopt(l.Peer)
		m.n.Joined, m.n.Cursor, m.n.Avoid = true, 0, nil
	default:
		m.what = "found: none, joined or not"
	}
}

func (m *model) goOn(l api.Letter) {
	switch {
	case !isOther(m.n, l.Peer):
		m.what, m.n.FindTo = "go on: not another one", -1
	case slices.Index(m.n.Avoid, l.Peer.Addr) >= 0:
		m.what, m.n.FindTo = "go on: in Avoid", -1
	case l.Peer.Addr == l.From.Addr:
		m.what, m.n.FindTo = "go on: From", -1
	case m.n.Hops > 31:
		m.what, m.n.FindTo = "go on: too far", -1
	default:
		m.what = "go on"
		m.n.Hops++
		m.seekOn(l.Peer.Addr)
	}
}

func (m *model) told(l api.Letter) {
	m.what = "told"
	m.n.AskTo = -1
	m.adopt(l.From, l.Peers...)
	if table.Closer(m.n.Table, l.Peer) {
		m.what += ", closer"
		m.adopt(l.Peer, append([]api.Peer{l.From}, l.Peers...)...)
	}
	m.letter(m.n.Table.Succ[0].Addr, api.Notify, func(*api.Letter) {})
}

func (m *model) bye(l api.Letter) {
	m.what = "bye"
	before := m.n.Table
	m.n.Table = table.Forget(before, l.From.Addr)
	if before.Pred.Addr == l.From.Addr {
		m.what += ", Pred"
		m.n.Table = table.Learn(m.n.Table, l.Peer)
	}
	if len(before.Succ) == 0 || before.Succ[0].Addr != l.From.Addr {
		return
	}
	m.what += ", First"
	switch {
	case len(l.Peers) == 0:
		m.what += ", no Peers"
	case isOther(m.n, l.Peers[0]):
		m.what += ", Peers"
		m.adopt(l.Peers[0], l.Peers[1:]...)
	}
}

func leaveOf(n api.Node) ([]api.Send, api.Errno, string) {
	if !isRight(n) {
		return nil, api.ErrArg, "wrong"
	}
	m := &model{n: n, what: "leave"}
	parts := func(l *api.Letter) { l.Peer, l.Peers = n.Table.Pred, n.Table.Succ }
	first := n.Table.Self
	if len(n.Table.Succ) > 0 {
		first = n.Table.Succ[0]
		m.letter(first.Addr, api.Bye, parts)
		m.what += ", First"
	}
	if n.Table.Pred != none() && n.Table.Pred != first {
		m.letter(n.Table.Pred.Addr, api.Bye, parts)
		m.what += ", Pred"
	}
	return m.out, api.OK, m.what
}

// From here on stands how calls are held against that.

func clone(n api.Node) api.Node {
	n.Table.Succ, n.Table.Fingers, n.Avoid = slices.Clone(n.Table.Succ), slices.Clone(n.Table.Fingers), slices.Clone(n.Avoid)
	return n
}

func cloneLetter(l api.Letter) api.Letter {
	l.Avoid, l.Peers = slices.Clone(l.Avoid), slices.Clone(l.Peers)
	return l
}

func cloneSends(l []api.Send) []api.Send {
	l = slices.Clone(l)
	for i := range l {
		l[i].Letter = cloneLetter(l[i].Letter)
	}
	return l
}

// single is all of a node but its lists.
type single struct {
	self, pred                                              api.Peer
	copies, boot, cursor, askTo, pingTo, findTo, hops, turn int
	joined                                                  bool
	req, askReq, pingReq, findReq                           uint64
	findID                                                  api.ID
}

func singles(n api.Node) single {
	return single{
		self: n.Table.Self, pred: n.Table.Pred, copies: n.Copies, boot: n.Boot, cursor: n.Cursor, askTo: n.AskTo, pingTo: n.PingTo, findTo: n.FindTo,
		hops: n.Hops, turn: n.Turn, joined: n.Joined, req: n.Req, askReq: n.AskReq, pingReq: n.PingReq, findReq: n.FindReq, findID: n.FindID,
	}
}

func same(n, m api.Node) bool {
	return singles(n) == singles(m) && slices.Equal(n.Table.Succ, m.Table.Succ) && slices.Equal(n.Table.Fingers, m.Table.Fingers) && slices.Equal(n.Avoid, m.Avoid)
}

func sameLetter(a, b api.Letter) bool {
	return a.Kind == b.Kind && a.From == b.From && a.Req == b.Req && a.ID == b.ID && slices.Equal(a.Avoid, b.Avoid) && a.Done == b.Done && a.Peer == b.Peer && slices.Equal(a.Peers, b.Peers)
}

func sameSends(a, b []api.Send) bool {
	return slices.EqualFunc(a, b, func(x, y api.Send) bool { return x.To == y.To && sameLetter(x.Letter, y.Letter) })
}

func nothing(n api.Node) bool {
	return singles(n) == single{} && len(n.Table.Succ) == 0 && len(n.Table.Fingers) == 0 && len(n.Avoid) == 0
}

// lend lays the lists of a node, or of a letter, into the midst of greater ones, so that what is written to them, or behind them, is seen.
func lend(n api.Node) api.Node {
	n.Table.Succ, n.Table.Fingers, n.Avoid = amidst(n.Table.Succ), amidst(n.Table.Fingers), amidst(n.Avoid)
	return n
}

func lendLetter(l api.Letter) api.Letter {
	l.Avoid, l.Peers = amidst(l.Avoid), amidst(l.Peers)
	return l
}

func amidst[T any](l []T) []T {
	var zero T
	if l == nil {
		return nil
	}
	return slices.Concat(l, []T{zero, zero, zero})[:len(l)]
}

// untouched tells whether a list that was lent is as it was, and nothing was written behind it.
func untouched[T comparable](l, was []T) bool {
	var zero T
	more := len(l) + 3
	return slices.Equal(l, was) && (l == nil || slices.Equal(l[len(l):more], []T{zero, zero, zero}))
}

func (h *held) back(t *testing.T) {
	t.Helper()
	if !same(h.n, h.nWas) || !untouched(h.n.Table.Succ, h.nWas.Table.Succ) || !untouched(h.n.Table.Fingers, h.nWas.Table.Fingers) || !untouched(h.n.Avoid, h.nWas.Avoid) {
		t.Errorf("R2: %s: the node that was handed in was %v, and became %v", h.call, h.nWas, h.n)
	}
	if !sameLetter(h.l, h.lWas) || !untouched(h.l.Avoid, h.lWas.Avoid) || !untouched(h.l.Peers, h.lWas.Peers) {
		t.Errorf("R2: %s: the letter that was handed in was %v, and became %v", h.call, h.lWas, h.l)
	}
}

// A held call has what is lent to it, and what that was.
type held struct {
	call    string
	n, nWas api.Node
	l, lWas api.Letter
}

func hold(call string, n api.Node, l api.Letter) *held {
	return &held{call: call, n: lend(n), nWas: clone(n), l: lendLetter(l), lWas: cloneLetter(l)}
}

// ends holds what was answered against what is asked for, and that all of it is memory of its own; it tells a copy of it.
func (h *held) ends(t *testing.T, got api.Node, out []api.Send, e api.Errno, want api.Node, sends []api.Send, code api.Errno) (api.Node, []api.Send) {
	t.Helper()
	if e != code || !same(got, want) || !sameSends(out, sends) {
		t.Fatalf("%s of\n%v,\n%v:\n%v,\n%v, %d, want\n%v,\n%v, %d", h.call, h.nWas, h.lWas, got, out, e, want, sends, code)
	}
	if e != api.OK && (!nothing(got) || len(out) > 0) {
		t.Errorf("R1: %s: %v, %v beside an error", h.call, got, out)
	}
	for _, s := range out {
		if !letter.Is(s.Letter) || s.Letter.From != h.nWas.Table.Self || !isAddr(s.To) || s.To == h.nWas.Table.Self.Addr {
			t.Errorf("P15.5: %s of %v sends %v", h.call, h.nWas, s)
		}
	}
	h.back(t)
	kept, keptOut := clone(got), cloneSends(out)
	spoil(t, h.call, got, out)
	h.back(t)
	return kept, keptOut
}

// spoil writes to all lists of an answer, as far as they may grow, each with a number of its own: if two had the same memory, one would have the other one's.
func spoil(t *testing.T, call string, n api.Node, out []api.Send) {
	t.Helper()
	peers, addrs := [][]api.Peer{n.Table.Succ, n.Table.Fingers}, [][]int{n.Avoid}
	for _, s := range out {
		peers, addrs = append(peers, s.Letter.Peers), append(addrs, s.Letter.Avoid)
	}
	write(t, call, peers, func(i int) api.Peer { return api.Peer{Addr: -100 - i} })
	write(t, call, addrs, func(i int) int { return -100 - i })
}

func write[T comparable](t *testing.T, call string, lists [][]T, own func(i int) T) {
	t.Helper()
	for i, l := range lists {
		for k := range l[:cap(l)] {
			l[:cap(l)][k] = own(i)
		}
	}
	for i, l := range lists {
		for _, x := range l[:cap(l)] {
			if x != own(i) {
				t.Fatalf("R2: %s: two lists of one answer have the same memory", call)
			}
		}
	}
}

// holdRight asks whether a node is right.
func holdRight(t *testing.T, n api.Node) {
	t.Helper()
	h := hold("Is", n, api.Letter{})
	if want := isRight(n); node.Is(h.n) != want {
		t.Errorf("P15.1: Is(%v): %t", n, !want)
	}
	h.back(t)
}

// holdTick, holdTake and holdLeave tell, beside the answer, by which case it came about.
func holdTick(t *testing.T, n api.Node, kind int) (api.Node, []api.Send, string) {
	t.Helper()
	h := hold("P15.2: Tick", n, api.Letter{})
	want, sends, code, what := tickOf(n, kind)
	got, out, e := node.Tick(h.n, kind)
	if e == api.OK && !node.Is(got) {
		t.Errorf("P15.5: behind a tick %d of %v: %v", kind, n, got)
	}
	got, out = h.ends(t, got, out, e, want, sends, code)
	return got, out, what
}

func holdTake(t *testing.T, n api.Node, l api.Letter) (api.Node, []api.Send, string) {
	t.Helper()
	h := hold("P15.3: Take", n, l)
	want, sends, code, what := takeOf(n, l)
	got, out, e := node.Take(h.n, h.l)
	if e == api.OK && !node.Is(got) {
		t.Errorf("P15.5: %v took %v: %v", n, l, got)
	}
	got, out = h.ends(t, got, out, e, want, sends, code)
	return got, out, what
}

func holdLeave(t *testing.T, n api.Node) ([]api.Send, string) {
	t.Helper()
	h := hold("P15.4: Leave", n, api.Letter{})
	want, code, what := leaveOf(n)
	out, e := node.Leave(h.n)
	_, out = h.ends(t, api.Node{}, out, e, api.Node{}, want, code)
	return out, what
}

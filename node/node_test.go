package node_test

import (
	"math"
	"math/big"
	"slices"
	"strings"
	"testing"

	"espalier/api"
	"espalier/letter"
	"espalier/node"
)

const greatest = math.MaxUint64

var last = api.ID([]byte(strings.Repeat("\xff", 20)))

// sizes are numbers that are no address, no finger, no tick, and no number of copies, though some are one if only their lowest bits are taken.
var sizes = []int{-2, -3, -160, 1001, 1 << 16, 1<<16 + 3, math.MinInt, math.MinInt + 1, math.MaxInt, math.MinInt32, math.MaxInt32, 1 << 32, 1<<32 + 1, 1<<32 + 3, -1<<32 + 2, 1 << 62, 1<<62 + 1}

// small is a place; below 0 it stands at the ring's end.
func small(n int) api.ID { return place(big.NewInt(int64(n))) }

func at(addr, n int) api.Peer { return api.Peer{Addr: addr, ID: small(n)} }

// peer is one of those in whose ring the address n stands at ten times n.
func peer(n int) api.Peer { return at(n, 10*n) }

func peers(ns ...int) []api.Peer {
	var l []api.Peer
	for _, n := range ns {
		l = append(l, peer(n))
	}
	return l
}

// numbers are n addresses from one on.
func numbers(from, n int) []int {
	var l []int
	for i := range n {
		l = append(l, from+i)
	}
	return l
}

// bare is a table of which nothing is known but Self.
func bare(self api.Peer) api.Table {
	return api.Table{Self: self, Pred: none(), Fingers: slices.Repeat([]api.Peer{none()}, 160)}
}

// known is the table of 10 in a settled ring of 10, 20, 30, 40 and 50.
func known() api.Table {
	t := bare(peer(1))
	t.Pred, t.Succ = peer(5), peers(2, 3, 4)
	copy(t.Fingers, peers(2, 2, 2, 2, 3, 5))
	return t
}

// joined has that table, and in each part another number; it waits for nobody.
func joined() api.Node {
	return api.Node{Table: known(), Copies: 3, Joined: true, Boot: 44, Cursor: 4, Req: 100, AskTo: -1, AskReq: 91, PingTo: -1, PingReq: 92, FindTo: -1, FindReq: 93, FindID: small(777), Hops: 5, Turn: 6}
}

// waiting is one that has asked everybody, and avoids some.
func waiting() api.Node {
	n := joined()
	n.AskTo, n.PingTo, n.FindTo, n.Avoid = 2, 3, 4, []int{70, 71}
	return n
}

// outside is one that has not joined, and knows nobody.
func outside() api.Node {
	n := joined()
	n.Table, n.Joined, n.Cursor = bare(peer(1)), false, 0
	return n
}

func with(n api.Node, change func(n *api.Node)) api.Node {
	n = clone(n)
	change(&n)
	return n
}

func stays(*api.Node) {}

// said is a letter from a peer to which parts are added.
func said(kind int, from api.Peer) api.Letter {
	return api.Letter{Kind: kind, From: from, Peer: none()}
}

func saidReq(kind int, from api.Peer, req uint64) api.Letter {
	l := said(kind, from)
	l.Req = req
	return l
}

func find(from api.Peer, req uint64, id api.ID, avoid ...int) api.Letter {
	l := saidReq(api.Find, from, req)
	l.ID, l.Avoid = id, avoid
	return l
}

func found(from api.Peer, req uint64, done bool, p api.Peer) api.Letter {
	l := saidReq(api.Found, from, req)
	l.Done, l.Peer = done, p
	return l
}

func told(from api.Peer, req uint64, p api.Peer, l ...api.Peer) api.Letter {
	x := saidReq(api.Told, from, req)
	x.Peer, x.Peers = p, l
	return x
}

func bye(from, p api.Peer, l ...api.Peer) api.Letter {
	x := said(api.Bye, from)
	x.Peer, x.Peers = p, l
	return x
}

func to(addr int, l api.Letter) api.Send { return api.Send{To: addr, Letter: l} }

// ticks holds a tick against what it changes and sends, written out.
func ticks(t *testing.T, kind int, n api.Node, change func(n *api.Node), sends ...api.Send) {
	t.Helper()
	got, out, _ := holdTick(t, n, kind)
	if want := with(n, change); !same(got, want) || !sameSends(out, sends) {
		t.Errorf("P15.2: tick %d of\n%v:\n%v,\n%v, want\n%v,\n%v", kind, n, got, out, want, sends)
	}
}

// takes does so for a letter.
func takes(t *testing.T, n api.Node, l api.Letter, change func(n *api.Node), sends ...api.Send) {
	t.Helper()
	got, out, _ := holdTake(t, n, l)
	if want := with(n, change); !same(got, want) || !sameSends(out, sends) {
		t.Errorf("P15.3: %v took %v:\n%v,\n%v, want\n%v,\n%v", n, l, got, out, want, sends)
	}
}

func unset(n *api.Node, fingers ...int) {
	for _, k := range fingers {
		n.Table.Fingers[k] = none()
	}
}

func TestAlone(t *testing.T) {
	for _, self := range []api.Peer{at(0, 0), at(1, 10), at(998, 0), {Addr: 999, ID: last}} {
		for r := 1; r <= 8; r++ {
			want := api.Node{Table: bare(self), Copies: r, Joined: true, Boot: -1, AskTo: -1, PingTo: -1, FindTo: -1}
			if n, e := node.Alone(self, r); e != api.OK || !same(n, want) || !node.Is(n) {
				t.Errorf("P15.1: Alone(%v, %d): %v, %d", self, r, n, e)
			}
		}
	}
	for _, addr := range append([]int{-1, 1000}, sizes...) {
		if n, e := node.Alone(at(addr, 10), 3); e != api.ErrArg || !nothing(n) {
			t.Errorf("P15.1: Alone at %d: %v, %d, want ErrArg", addr, n, e)
		}
	}
	for _, r := range append([]int{-1, 0, 9, 10}, sizes...) {
		if n, e := node.Alone(peer(1), r); e != api.ErrArg || !nothing(n) {
			t.Errorf("P15.1: Alone with %d copies: %v, %d, want ErrArg", r, n, e)
		}
	}
}

func TestJoining(t *testing.T) {
	for _, self := range []api.Peer{at(0, 0), at(1, 10), {Addr: 999, ID: last}} {
		for r := 1; r <= 8; r++ {
			for _, boot := range []int{0, 1, 2, 998, 999} {
				n, e := node.Joining(self, r, boot)
				want := api.Node{Table: bare(self), Copies: r, Boot: boot, AskTo: -1, PingTo: -1, FindTo: -1}
				if boot == self.Addr && (e != api.ErrArg || !nothing(n)) {
					t.Errorf("P15.1: Joining(%v, %d, %d): %v, %d, want ErrArg", self, r, boot, n, e)
				}
				if boot != self.Addr && (e != api.OK || !same(n, want) || !node.Is(n)) {
					t.Errorf("P15.1: Joining(%v, %d, %d): %v, %d", self, r, boot, n, e)
				}
			}
		}
	}
	refused := func(self api.Peer, r, boot int) {
		t.Helper()
		if n, e := node.Joining(self, r, boot); e != api.ErrArg || !nothing(n) {
			t.Errorf("P15.1: Joining(%v, %d, %d): %v, %d, want ErrArg", self, r, boot, n, e)
		}
	}
	for _, addr := range append([]int{-1, 1000}, sizes...) {
		refused(at(addr, 10), 3, 2)
		refused(peer(1), 3, addr)
		refused(at(addr, 10), 3, addr)
	}
	for _, r := range append([]int{-1, 0, 9, 10}, sizes...) {
		refused(peer(1), r, 2)
	}
}

// TestNewOnesAreApart writes to what one call told: what others told stays.
func TestNewOnesAreApart(t *testing.T) {
	a, _ := node.Alone(peer(1), 3)
	b, _ := node.Alone(peer(1), 3)
	c, _ := node.Joining(peer(1), 3, 2)
	kept, keptC := clone(b), clone(c)
	spoil(t, "Alone", a, nil)
	if !same(b, kept) || !same(c, keptC) {
		t.Errorf("R2: %v and %v share memory", b, c)
	}
}

// A part of a node is set to a number, and what is right of it is told.
type part struct {
	name  string
	set   func(n *api.Node, x int)
	right func(x int) bool
}

func from(least, most int) func(int) bool {
	return func(x int) bool { return x >= least && x <= most }
}

func parts() []part {
	one := []part{
		{"Copies", func(n *api.Node, x int) { n.Copies = x }, from(1, 8)},
		{"Cursor", func(n *api.Node, x int) { n.Cursor = x }, from(0, 159)},
		{"Hops", func(n *api.Node, x int) { n.Hops = x }, from(0, 64)},
		{"Turn", func(n *api.Node, x int) { n.Turn = x }, from(0, 999999)},
		{"Boot", func(n *api.Node, x int) { n.Boot = x }, from(-1, 999)},
		{"AskTo", func(n *api.Node, x int) { n.AskTo = x }, from(-1, 999)},
		{"PingTo", func(n *api.Node, x int) { n.PingTo = x }, from(-1, 999)},
		{"FindTo", func(n *api.Node, x int) { n.FindTo = x }, from(-1, 999)},
	}
	for i := range 16 {
		one = append(one, part{"Avoid", func(n *api.Node, x int) {
			n.Avoid = numbers(60, 16)
			n.Avoid[i] = x
		}, from(0, 999)})
	}
	return append(one, part{"Avoid", func(n *api.Node, x int) { n.Avoid = []int{x} }, from(0, 999)})
}

var edges = []int{-2, -1, 0, 1, 2, 7, 8, 9, 63, 64, 65, 158, 159, 160, 161, 998, 999, 1000, 1001, 999998, 999999, 1000000, 1000001}

// mayBeSelf are the parts that may be Self's Addr.
var mayBeSelf = []string{"Copies", "Cursor", "Hops", "Turn", "Avoid"}

func TestIsEachPart(t *testing.T) {
	for _, self := range []api.Peer{at(0, 10), peer(1), at(999, 10)} {
		for _, p := range parts() {
			for _, x := range append(edges, sizes...) {
				for _, in := range []bool{false, true} {
					n, _ := node.Alone(self, 3)
					n.Joined, n.Boot = in, 5
					p.set(&n, x)
					want := p.right(x) && (x != self.Addr || slices.Contains(mayBeSelf, p.name)) && (in || p.name != "Boot" || x != -1)
					if node.Is(n) != want {
						t.Errorf("P15.1: of Self %d, joined %t, with %s %d Is tells %t", self.Addr, in, p.name, x, !want)
					}
					holdRight(t, n)
				}
			}
		}
	}
}

func TestIsAvoid(t *testing.T) {
	for n := range 40 {
		for _, l := range [][]int{numbers(0, n), slices.Repeat([]int{999}, n)} {
			x := with(joined(), func(x *api.Node) { x.Avoid = l })
			if node.Is(x) != (n <= 16) {
				t.Errorf("P15.1: with %d to avoid Is tells %t", n, n > 16)
			}
			holdRight(t, x)
		}
	}
	huge := with(joined(), func(x *api.Node) { x.Avoid = make([]int, 1<<20) })
	if node.Is(huge) {
		t.Error("P15.1: with very many to avoid Is tells true")
	}
}

func TestIs(t *testing.T) {
	for _, n := range []api.Node{joined(), waiting(), outside(), with(waiting(), func(n *api.Node) { n.Joined = false })} {
		if !node.Is(n) {
			t.Errorf("P15.1: Is(%v): false", n)
		}
		holdRight(t, n)
	}
	if !node.Is(with(joined(), func(n *api.Node) { n.Boot = -1 })) || node.Is(with(joined(), func(n *api.Node) { n.Boot, n.Joined = -1, false })) {
		t.Error("P15.1: Boot may be -1 of one that has Joined, and of no other one")
	}
	if node.Is(api.Node{}) {
		t.Error("P15.1: Is of a zero node")
	}
	for _, n := range wrongs() {
		if node.Is(n) {
			t.Errorf("P15.1: Is(%v): true", n)
		}
		holdRight(t, n)
	}
}

// wrongs are nodes that are not right, each in one way.
func wrongs() []api.Node {
	l := []api.Node{{}, {Table: bare(peer(1))}}
	for _, n := range []api.Node{joined(), waiting(), outside()} {
		for _, p := range parts() {
			for _, x := range append(edges, sizes...) {
				if !p.right(x) {
					l = append(l, with(n, func(n *api.Node) { p.set(n, x) }))
				}
			}
		}
		for _, change := range []func(n *api.Node){
			func(n *api.Node) { n.Boot = 1 }, func(n *api.Node) { n.AskTo = 1 }, func(n *api.Node) { n.PingTo = 1 }, func(n *api.Node) { n.FindTo = 1 },
			func(n *api.Node) { n.Joined, n.Boot = false, -1 }, func(n *api.Node) { n.Avoid = numbers(60, 17) },
			func(n *api.Node) { n.Table = api.Table{} },
			func(n *api.Node) { n.Table.Self.Addr = -1 }, func(n *api.Node) { n.Table.Self.Addr = 1000 },
			func(n *api.Node) { n.Table.Pred = peer(1) }, func(n *api.Node) { n.Table.Pred = at(1, 15) }, func(n *api.Node) { n.Table.Pred = at(7, 10) },
			func(n *api.Node) { n.Table.Pred = at(-1, 1) }, func(n *api.Node) { n.Table.Pred = at(1000, 70) },
			func(n *api.Node) { n.Table.Succ = []api.Peer{none()} }, func(n *api.Node) { n.Table.Succ = peers(2, 3, 2) },
			func(n *api.Node) { n.Table.Succ = peers(2, 1) }, func(n *api.Node) { n.Table.Succ = []api.Peer{at(7, 10)} }, func(n *api.Node) { n.Table.Succ = []api.Peer{at(1000, 70)} },
			func(n *api.Node) { n.Table.Succ = peers(2, 3, 4, 5, 6, 7, 8, 9, 10) },
			func(n *api.Node) { n.Table.Fingers = n.Table.Fingers[:159] }, func(n *api.Node) { n.Table.Fingers = append(n.Table.Fingers, none()) }, func(n *api.Node) { n.Table.Fingers = nil },
			func(n *api.Node) { n.Table.Fingers[0] = peer(1) }, func(n *api.Node) { n.Table.Fingers[159] = at(-1, 1) }, func(n *api.Node) { n.Table.Fingers[80] = at(1000, 70) },
		} {
			l = append(l, with(n, change))
		}
	}
	return l
}

// letters are right, one and more of each kind.
func letters() []api.Letter {
	return []api.Letter{
		find(peer(2), 7, small(15), 3), find(peer(2), 0, small(45)), found(peer(4), 93, true, peer(3)), found(peer(4), 93, false, peer(3)), found(peer(4), 93, true, peer(1)),
		saidReq(api.Ask, peer(3), 8), told(peer(2), 91, none()), told(peer(2), 91, peer(3), peer(3), peer(4)), said(api.Notify, at(6, 60)),
		saidReq(api.Ping, peer(2), 9), saidReq(api.Pong, peer(3), 92), bye(peer(2), none()), bye(peer(5), peer(4), peer(1)), bye(peer(2), peer(1), peer(3)),
	}
}

func wrongLetters() []api.Letter {
	l := []api.Letter{{}, said(0, peer(2)), said(9, peer(2)), said(-1, peer(2)), said(1<<32+5, peer(2)), found(peer(4), 93, true, none()), found(peer(4), 93, false, none()), {Kind: api.Notify, From: peer(2)}}
	for _, addr := range []int{-1, 1000} {
		l = append(l, said(api.Notify, at(addr, 60)), find(peer(2), 1, small(5), addr), found(peer(4), 93, true, at(addr, 30)), told(peer(2), 91, at(addr, 15)), told(peer(2), 91, none(), at(addr, 30)), bye(peer(2), none(), peer(3), at(addr, 40)))
	}
	l = append(l, find(peer(2), 1, small(5), numbers(60, 17)...), told(peer(2), 91, none(), peers(3, 4, 5, 6, 7, 8, 9, 10, 11)...))
	return append(l, saidReq(api.Notify, peer(2), 1), saidReq(api.Bye, peer(2), 1))
}

// TestWrong is of nodes and of letters that are not right.
func TestWrong(t *testing.T) {
	for _, n := range wrongs() {
		for kind := range 5 {
			if m, s, e := node.Tick(n, kind); e != api.ErrArg || !nothing(m) || len(s) > 0 {
				t.Errorf("P15.2: Tick(%v, %d): %v, %v, %d, want ErrArg", n, kind, m, s, e)
			}
		}
		for _, l := range letters() {
			if m, s, e := node.Take(n, l); e != api.ErrArg || !nothing(m) || len(s) > 0 {
				t.Errorf("P15.3: Take(%v, %v): %v, %v, %d, want ErrArg", n, l, m, s, e)
			}
		}
		if s, e := node.Leave(n); e != api.ErrArg || len(s) > 0 {
			t.Errorf("P15.4: Leave(%v): %v, %d, want ErrArg", n, s, e)
		}
	}
	for _, n := range []api.Node{joined(), waiting(), outside(), {}} {
		for _, l := range wrongLetters() {
			if letter.Is(l) {
				t.Fatalf("P14.1: %v is right", l)
			}
			if m, s, e := node.Take(n, l); e != api.ErrArg || !nothing(m) || len(s) > 0 {
				t.Errorf("P15.3: Take(%v, %v): %v, %v, %d, want ErrArg", n, l, m, s, e)
			}
			holdTake(t, n, l)
		}
		for _, kind := range append([]int{-1, 0, 4, 5, 1000}, sizes...) {
			if m, s, e := node.Tick(n, kind); e != api.ErrArg || !nothing(m) || len(s) > 0 {
				t.Errorf("P15.2: Tick(%v, %d): %v, %v, %d, want ErrArg", n, kind, m, s, e)
			}
			holdTick(t, n, kind)
		}
	}
}

func TestEnter(t *testing.T) {
	asks := func(n *api.Node) { n.Req, n.FindTo, n.FindReq, n.FindID, n.Hops = 101, 44, 101, small(10), 0 }
	sent := func(avoid ...int) api.Send { return to(44, find(peer(1), 101, small(10), avoid...)) }
	n := outside()
	ticks(t, 1, n, asks, sent())
	n.Hops, n.FindID = 0, small(10)
	ticks(t, 1, n, asks, sent())
	for _, c := range []struct {
		findTo      int
		avoid, then []int
	}{
		{-1, []int{7, 8}, []int{7, 8}}, {44, []int{7, 8}, []int{7, 8}}, {44, []int{44}, []int{44}}, {-1, []int{44}, []int{44}},
		{7, []int{7, 8}, []int{7, 8}}, {8, []int{7, 8}, []int{7, 8}}, {9, []int{7, 8}, []int{7, 8, 9}}, {0, nil, []int{0}}, {999, nil, []int{999}}, {2, []int{1}, []int{1, 2}},
		{9, numbers(60, 15), append(numbers(60, 15), 9)}, {9, numbers(60, 16), numbers(60, 16)}, {44, numbers(60, 15), numbers(60, 15)}, {-1, numbers(60, 15), numbers(60, 15)}, {70, numbers(60, 15), numbers(60, 15)},
	} {
		n := with(outside(), func(n *api.Node) { n.FindTo, n.Avoid = c.findTo, c.avoid })
		ticks(t, 1, n, func(n *api.Node) { asks(n); n.Avoid = c.then }, sent(c.then...))
	}
	// what it knows, and waits for else, plays no part, and stays
	n = with(waiting(), func(n *api.Node) { n.Joined = false })
	ticks(t, 1, n, func(n *api.Node) { asks(n); n.Avoid = []int{70, 71, 4} }, sent(70, 71, 4))
	n = with(outside(), func(n *api.Node) { n.Table.Pred = peer(5) })
	ticks(t, 1, n, asks, sent())
	n = with(outside(), func(n *api.Node) { n.Boot, n.FindTo = 0, 999 })
	ticks(t, 1, n, func(n *api.Node) {
		asks(n)
		n.FindTo, n.Avoid = 0, []int{999}
	}, to(0, find(peer(1), 101, small(10), 999)))
}

func TestStabilise(t *testing.T) {
	asks := func(n *api.Node, addr int) { n.Req, n.AskTo, n.AskReq = 101, addr, 101 }
	sent := func(addr int) api.Send { return to(addr, saidReq(api.Ask, peer(1), 101)) }
	ticks(t, 1, joined(), func(n *api.Node) { asks(n, 2) }, sent(2))
	ticks(t, 1, waiting(), func(n *api.Node) {
		asks(n, 3)
		n.Table.Succ = peers(3, 4)
		unset(n, 0, 1, 2, 3)
	}, sent(3))
	asked := func(addr int) api.Node { return with(joined(), func(n *api.Node) { n.AskTo = addr }) }
	ticks(t, 1, asked(3), func(n *api.Node) {
		asks(n, 2)
		n.Table.Succ = peers(2, 4)
		unset(n, 4)
	}, sent(2))
	ticks(t, 1, asked(5), func(n *api.Node) {
		asks(n, 2)
		n.Table.Pred = none()
		unset(n, 5)
	}, sent(2))
	ticks(t, 1, asked(9), func(n *api.Node) { asks(n, 2) }, sent(2))
	ticks(t, 1, asked(0), func(n *api.Node) { asks(n, 2) }, sent(2))

	lone := func(addr int, pred api.Peer, succ ...api.Peer) api.Node {
		return with(asked(addr), func(n *api.Node) { n.Table = bare(peer(1)); n.Table.Pred, n.Table.Succ = pred, succ })
	}
	ticks(t, 1, lone(-1, none()), stays)
	ticks(t, 1, lone(9, none()), func(n *api.Node) { n.AskTo = -1 })
	ticks(t, 1, lone(2, none(), peer(2)), func(n *api.Node) { n.AskTo, n.Table.Succ = -1, nil })
	ticks(t, 1, lone(2, peer(2), peer(2)), func(n *api.Node) { n.AskTo, n.Table.Succ, n.Table.Pred = -1, nil, none() })
	ticks(t, 1, lone(2, peer(2)), func(n *api.Node) { n.AskTo, n.Table.Pred = -1, none() })
	ticks(t, 1, lone(2, peer(5), peer(2)), func(n *api.Node) { asks(n, 5); n.Table.Succ = peers(5) }, sent(5))
	ticks(t, 1, lone(2, peer(5), peers(2, 3)...), func(n *api.Node) { asks(n, 3); n.Table.Succ = peers(3) }, sent(3))
	for _, addr := range []int{0, 5, 999} {
		for _, copies := range []int{1, 3, 8} {
			n := with(lone(-1, at(addr, 50)), func(n *api.Node) { n.Copies = copies })
			ticks(t, 1, n, func(n *api.Node) { asks(n, addr); n.Table.Succ = []api.Peer{at(addr, 50)} }, sent(addr))
		}
	}
	ticks(t, 1, lone(-1, none(), at(0, 5)), func(n *api.Node) { asks(n, 0) }, sent(0))
	// of all else that it knows nobody is adopted
	n := with(joined(), func(n *api.Node) { n.Table.Succ = nil })
	ticks(t, 1, n, func(n *api.Node) { asks(n, 5); n.Table.Succ = peers(5) }, sent(5))
	n.Table.Pred = none()
	ticks(t, 1, n, stays)
}

func TestFix(t *testing.T) {
	outer := with(waiting(), func(n *api.Node) { n.Joined = false })
	ticks(t, 2, outer, stays)
	ticks(t, 2, outside(), stays)

	seeks := func(n *api.Node, addr, place int) {
		n.Req, n.FindTo, n.FindReq, n.FindID, n.Hops = 101, addr, 101, small(place), 0
	}
	ticks(t, 2, joined(), func(n *api.Node) { seeks(n, 2, 26) }, to(2, find(peer(1), 101, small(26))))
	ticks(t, 2, with(joined(), func(n *api.Node) { n.Avoid = []int{2, 3} }), func(n *api.Node) {
		seeks(n, 2, 26)
		n.Avoid = nil
	}, to(2, find(peer(1), 101, small(26))))
	ticks(t, 2, with(joined(), func(n *api.Node) { n.Cursor = 5 }), func(n *api.Node) { seeks(n, 4, 42) }, to(4, find(peer(1), 101, small(42))))
	ticks(t, 2, with(joined(), func(n *api.Node) { n.Cursor = 16 }), func(n *api.Node) { seeks(n, 5, 10+1<<16) }, to(5, find(peer(1), 101, small(10+1<<16))))

	// the owner is known
	ticks(t, 2, with(joined(), func(n *api.Node) { n.Cursor, n.Avoid = 0, []int{2} }), func(n *api.Node) { n.Cursor, n.Avoid = 4, nil })
	ticks(t, 2, with(joined(), func(n *api.Node) { n.Cursor = 2; unset(n, 0, 1, 2, 3) }), func(n *api.Node) {
		n.Cursor = 4
		copy(n.Table.Fingers[2:], peers(2, 2))
	})
	ticks(t, 2, with(joined(), func(n *api.Node) { n.Cursor, n.Table.Fingers[0] = 3, at(9, 15) }), func(n *api.Node) { n.Cursor = 4 })
	ticks(t, 2, with(joined(), func(n *api.Node) { n.Table.Succ = peers(5) }), func(n *api.Node) {
		n.Cursor, n.Table.Fingers[4] = 6, peer(5)
	})
	for _, cursor := range []int{0, 1, 80, 158, 159} {
		n := with(joined(), func(n *api.Node) { n.Table.Succ, n.Cursor = nil, cursor })
		ticks(t, 2, n, func(n *api.Node) {
			n.Cursor = 0
			copy(n.Table.Fingers[cursor:], slices.Repeat([]api.Peer{none()}, 160))
		})
	}
}

// TestFixLost is of one that was asked in vain.
func TestFixLost(t *testing.T) {
	seeks := func(n *api.Node, addr, place int) {
		n.Req, n.FindTo, n.FindReq, n.FindID, n.Hops = 101, addr, 101, small(place), 0
	}
	lost := func(addr, cursor int, avoid ...int) api.Node {
		return with(joined(), func(n *api.Node) { n.FindTo, n.Cursor, n.Avoid = addr, cursor, avoid })
	}
	ticks(t, 2, lost(2, 4), func(n *api.Node) {
		n.FindTo, n.Avoid, n.Cursor, n.Table.Succ = -1, []int{2}, 5, peers(3, 4)
		unset(n, 0, 1, 2, 3)
	})
	for _, c := range []struct{ avoid, then []int }{
		{nil, []int{3}}, {[]int{3}, []int{3}}, {[]int{3, 4}, []int{3, 4}}, {[]int{4, 5}, []int{4, 5, 3}},
		{numbers(60, 15), append(numbers(60, 15), 3)}, {numbers(60, 16), numbers(60, 16)}, {append(numbers(60, 15), 3), append(numbers(60, 15), 3)},
	} {
		ticks(t, 2, lost(3, 4, c.avoid...), func(n *api.Node) {
			seeks(n, 2, 26)
			n.Avoid, n.Table.Succ = c.then, peers(2, 4)
			unset(n, 4)
		}, to(2, find(peer(1), 101, small(26), c.then...)))
	}
	// those that are avoided are not asked, though they are known
	ticks(t, 2, lost(9, 5, 4, 6), func(n *api.Node) { seeks(n, 3, 42); n.Avoid = []int{4, 6, 9} }, to(3, find(peer(1), 101, small(42), 4, 6, 9)))
	ticks(t, 2, lost(4, 5, 3), func(n *api.Node) { seeks(n, 2, 42); n.Avoid, n.Table.Succ = []int{3, 4}, peers(2, 3) }, to(2, find(peer(1), 101, small(42), 3, 4)))
	ticks(t, 2, lost(0, 5, 4, 3), func(n *api.Node) { seeks(n, 2, 42); n.Avoid = []int{4, 3, 0} }, to(2, find(peer(1), 101, small(42), 4, 3, 0)))
	ticks(t, 2, lost(4, 5, 2, 3), func(n *api.Node) { n.FindTo, n.Cursor, n.Avoid, n.Table.Succ = -1, 0, []int{2, 3, 4}, peers(2, 3) })
	ticks(t, 2, lost(9, 159, 5, 4, 3, 2), func(n *api.Node) { n.FindTo, n.Cursor, n.Avoid = -1, 0, []int{5, 4, 3, 2, 9} })
	// all that is known was asked in vain
	n := lost(5, 9)
	n.Table = bare(peer(1))
	n.Table.Succ, n.Table.Fingers[9] = peers(5), peer(5)
	ticks(t, 2, n, func(n *api.Node) {
		n.FindTo, n.Cursor, n.Avoid, n.Table.Succ = -1, 0, []int{5}, nil
		unset(n, 9)
	})
}

// TestFixEach seeks the place of each finger.
func TestFixEach(t *testing.T) {
	for _, self := range []api.ID{small(0), small(10), last, finger(small(0), 159)} {
		for k := range 160 {
			n := with(joined(), func(n *api.Node) {
				n.Table = bare(api.Peer{Addr: 1, ID: self})
				n.Table.Succ, n.Cursor = []api.Peer{{Addr: 2, ID: finger(self, 0)}}, k
			})
			place := finger(self, k)
			if k == 0 {
				ticks(t, 2, n, func(n *api.Node) { n.Cursor, n.Table.Fingers[0] = 1, n.Table.Succ[0] })
				continue
			}
			ticks(t, 2, n, func(n *api.Node) { n.Req, n.FindTo, n.FindReq, n.FindID, n.Hops = 101, 2, 101, place, 0 }, to(2, find(n.Table.Self, 101, place)))
		}
	}
}

func TestCheck(t *testing.T) {
	pings := func(n *api.Node, addr int) { n.Req, n.PingTo, n.PingReq = 101, addr, 101 }
	sent := func(addr int) api.Send { return to(addr, saidReq(api.Ping, peer(1), 101)) }
	for turn, addr := range []int{2, 3, 4, 5, 2, 3, 4, 5, 2} {
		for _, in := range []bool{true, false} {
			n := with(joined(), func(n *api.Node) { n.Turn, n.Joined = turn, in })
			ticks(t, 3, n, func(n *api.Node) { pings(n, addr); n.Turn = turn + 1 }, sent(addr))
		}
	}
	// without 3 there are three: 2, 4 and 5
	for turn, addr := range []int{2, 4, 5, 2} {
		n := with(waiting(), func(n *api.Node) { n.Turn = turn })
		ticks(t, 3, n, func(n *api.Node) {
			pings(n, addr)
			n.Turn, n.Table.Succ = turn+1, peers(2, 4)
			unset(n, 4)
		}, sent(addr))
	}
	for turn, addr := range map[int]int{999997: 3, 999998: 4, 999999: 5} {
		n := with(joined(), func(n *api.Node) { n.Turn = turn })
		ticks(t, 3, n, func(n *api.Node) { pings(n, addr); n.Turn = (turn + 1) % 1000000 }, sent(addr))
	}
	ticks(t, 3, with(joined(), func(n *api.Node) { n.PingTo = 9 }), func(n *api.Node) { pings(n, 4); n.Turn = 7 }, sent(4))
	ticks(t, 3, with(joined(), func(n *api.Node) { n.PingTo = 5 }), func(n *api.Node) {
		pings(n, 2)
		n.Turn, n.Table.Pred = 7, none()
		unset(n, 5)
	}, sent(2))
	lone := func(to int, pred api.Peer, fingers ...api.Peer) api.Node {
		return with(joined(), func(n *api.Node) {
			n.PingTo, n.Table = to, bare(peer(1))
			n.Table.Pred = pred
			copy(n.Table.Fingers, fingers)
		})
	}
	ticks(t, 3, lone(-1, none()), stays)
	ticks(t, 3, lone(9, none()), func(n *api.Node) { n.PingTo = -1 })
	ticks(t, 3, lone(5, peer(5), peer(5)), func(n *api.Node) { n.PingTo, n.Table.Pred, n.Table.Fingers[0] = -1, none(), none() })
	ticks(t, 3, lone(-1, at(0, 5)), func(n *api.Node) { pings(n, 0); n.Turn = 7 }, sent(0))
	ticks(t, 3, lone(-1, none(), at(999, 5)), func(n *api.Node) { pings(n, 999); n.Turn = 7 }, sent(999))
}

// TestRequests has requests follow the greatest one: behind it comes 0.
func TestRequests(t *testing.T) {
	for req, next := range map[uint64]uint64{0: 1, 1: 2, 255: 256, 1<<32 - 1: 1 << 32, 1<<63 - 1: 1 << 63, greatest - 1: greatest, greatest: 0} {
		n := with(waiting(), func(n *api.Node) { n.Req, n.AskTo, n.PingTo, n.FindTo = req, -1, -1, -1 })
		ticks(t, 1, n, func(n *api.Node) { n.Req, n.AskTo, n.AskReq = next, 2, next }, to(2, saidReq(api.Ask, peer(1), next)))
		ticks(t, 3, n, func(n *api.Node) { n.Req, n.PingTo, n.PingReq, n.Turn = next, 4, next, 7 }, to(4, saidReq(api.Ping, peer(1), next)))
		ticks(t, 2, n, func(n *api.Node) {
			n.Req, n.FindTo, n.FindReq, n.FindID, n.Hops, n.Avoid = next, 2, next, small(26), 0, nil
		}, to(2, find(peer(1), next, small(26))))
		n.FindTo = 4
		takes(t, n, found(peer(4), 93, false, peer(5)), func(n *api.Node) { n.Req, n.FindTo, n.FindReq, n.Hops = next, 5, next, 6 }, to(5, find(peer(1), next, small(777), 70, 71)))
		n.Joined = false
		ticks(t, 1, n, func(n *api.Node) {
			n.Req, n.FindTo, n.FindReq, n.FindID, n.Hops, n.Avoid = next, 44, next, small(10), 0, []int{70, 71, 4}
		}, to(44, find(peer(1), next, small(10), 70, 71, 4)))
	}
}

// TestFromNobody has each letter come from one that is not another one: of Self's Addr, or of its ID.
func TestFromNobody(t *testing.T) {
	for _, n := range []api.Node{joined(), waiting(), outside(), with(waiting(), func(n *api.Node) { n.Joined = false })} {
		for _, from := range []api.Peer{peer(1), at(1, 15), at(1, 20), at(2, 10), at(3, 10), at(4, 10), at(0, 10), at(999, 10)} {
			for _, l := range letters() {
				l.From = from
				takes(t, n, l, stays)
			}
		}
	}
}

func TestFind(t *testing.T) {
	n := waiting()
	answer := func(id int, done bool, p api.Peer, avoid ...int) {
		t.Helper()
		for _, from := range []api.Peer{at(0, 5), peer(2), peer(9), at(999, 5)} {
			for _, req := range []uint64{0, 7, greatest} {
				takes(t, n, find(from, req, small(id), avoid...), stays, to(from.Addr, found(peer(1), req, done, p)))
			}
		}
	}
	answer(11, true, peer(2))
	answer(20, true, peer(2))
	answer(20, true, peer(2), 2)
	answer(21, false, peer(2))
	answer(26, false, peer(2))
	answer(30, false, peer(2))
	answer(31, false, peer(3))
	answer(42, false, peer(4))
	answer(42, false, peer(3), 4)
	answer(42, false, peer(2), 4, 3)
	answer(42, true, peer(2), 4, 3, 2)
	answer(42, true, peer(2), numbers(1, 16)...)
	answer(51, false, peer(5))
	answer(51, false, peer(3), 5, 4, 60)
	answer(10, false, peer(5))
	answer(9, false, peer(5))
	answer(0, false, peer(5))
	answer(-1, false, peer(5))
	answer(10, true, peer(2), 5, 2, 4, 3)

	// the owner is told, though one that is known is nearer
	n.Table.Fingers[0] = at(9, 15)
	answer(16, true, peer(2))
	answer(20, true, peer(2))
	answer(21, false, peer(2))
	n.Table.Fingers[0] = peer(2)

	// whom the node avoids itself plays no part
	n.Avoid = []int{2, 3, 4, 5}
	answer(42, false, peer(4))
	n.Table = bare(peer(1))
	for _, id := range []int{0, 10, 11, 999} {
		takes(t, n, find(peer(2), 7, small(id)), stays, to(2, found(peer(1), 7, true, peer(1))))
	}
	n.Table.Pred = peer(5)
	answer(42, true, peer(1))
	n.Joined = false
	for _, id := range []int{11, 42} {
		takes(t, n, find(peer(2), 7, small(id)), stays)
	}
}

// TestFoundForNobody is of answers that were not asked for, or that come twice.
func TestFoundForNobody(t *testing.T) {
	for _, in := range []bool{true, false} {
		n := with(waiting(), func(n *api.Node) { n.Joined = in })
		idle := with(n, func(n *api.Node) { n.FindTo = -1 })
		for _, done := range []bool{true, false} {
			for _, p := range peers(1, 3, 5, 6) {
				takes(t, n, found(peer(3), 93, done, p), stays)
				takes(t, n, found(peer(2), 93, done, p), stays)
				takes(t, n, found(peer(4), 92, done, p), stays)
				takes(t, n, found(peer(4), 94, done, p), stays)
				takes(t, n, found(peer(4), 100, done, p), stays)
				takes(t, n, found(peer(4), 0, done, p), stays)
				takes(t, n, found(peer(4), 93+1<<32, done, p), stays)
				takes(t, idle, found(peer(4), 93, done, p), stays)
			}
			m, _, _ := holdTake(t, n, found(peer(4), 93, done, peer(6)))
			takes(t, m, found(peer(4), 93, done, peer(6)), stays)
			takes(t, m, found(peer(4), 93, !done, peer(5)), stays)
		}
	}
}

func TestFoundDone(t *testing.T) {
	n := with(waiting(), func(n *api.Node) { unset(n, 4, 5) })
	over := func(n *api.Node) { n.FindTo = -1 }
	done := func(p api.Peer, change func(n *api.Node)) {
		t.Helper()
		// who answers goes by the address alone
		for _, from := range []api.Peer{peer(4), at(4, 77)} {
			takes(t, n, found(from, 93, true, p), func(n *api.Node) { over(n); change(n) })
		}
	}
	done(peer(3), func(n *api.Node) { n.Cursor, n.Table.Fingers[4] = 5, peer(3) })
	done(peer(4), func(n *api.Node) { n.Cursor, n.Table.Fingers[4] = 5, peer(4) })
	done(peer(5), func(n *api.Node) { n.Cursor = 6; copy(n.Table.Fingers[4:], peers(5, 5)) })
	done(at(0, 75), func(n *api.Node) {
		n.Cursor = 7
		copy(n.Table.Fingers[4:], []api.Peer{at(0, 75), at(0, 75), at(0, 75)})
	})
	done(at(999, 15), func(n *api.Node) { n.Cursor, n.Table.Fingers[4] = 5, at(999, 15) })
	done(at(70, 26), func(n *api.Node) { n.Cursor, n.Table.Fingers[4] = 5, at(70, 26) }) // it is avoided, which plays no part
	done(at(9, 9), func(n *api.Node) {
		n.Cursor = 0
		copy(n.Table.Fingers[4:], slices.Repeat([]api.Peer{at(9, 9)}, 156))
	})
	done(peer(1), func(n *api.Node) { n.Cursor = 0 })
	done(at(1, 15), stays)
	done(at(1, 5), stays)
	done(at(7, 10), stays)
	full := with(n, func(n *api.Node) { n.Table.Fingers = slices.Repeat(peers(5), 160) })
	takes(t, full, found(peer(4), 93, true, peer(1)), func(n *api.Node) {
		over(n)
		n.Cursor = 0
		unset(n, numbers(4, 156)...)
	})
	n.Cursor = 159
	done(peer(3), func(n *api.Node) { n.Cursor, n.Table.Fingers[159] = 0, peer(3) })
	n.Cursor, n.FindTo, n.Hops = 0, 0, 64
	takes(t, n, found(at(0, 99), 93, true, at(9, 13)), func(n *api.Node) {
		over(n)
		n.Cursor = 2
		copy(n.Table.Fingers, []api.Peer{at(9, 13), at(9, 13)})
	})
}

// TestFoundJoins is of one that has not joined, and is told who is behind it.
func TestFoundJoins(t *testing.T) {
	n := with(waiting(), func(n *api.Node) { n.Joined = false })
	for _, from := range []api.Peer{peer(4), at(4, 77)} {
		for _, p := range []api.Peer{peer(2), peer(4), peer(5), at(0, 9), at(999, 11), at(70, 5)} {
			for _, copies := range []int{1, 3, 8} {
				n.Copies = copies
				takes(t, n, found(from, 93, true, p), func(n *api.Node) {
					n.FindTo, n.Joined, n.Cursor, n.Avoid, n.Table.Succ = -1, true, 0, nil, []api.Peer{p}
				})
			}
		}
		for _, p := range []api.Peer{peer(1), at(1, 15), at(7, 10)} {
			takes(t, n, found(from, 93, true, p), func(n *api.Node) { n.FindTo = -1 })
		}
	}
}

func TestFoundGoesOn(t *testing.T) {
	for _, in := range []bool{true, false} {
		n := with(waiting(), func(n *api.Node) { n.Joined = in })
		over := func(n *api.Node) { n.FindTo = -1 }
		on := func(addr, hops int) func(n *api.Node) {
			return func(n *api.Node) { n.Req, n.FindTo, n.FindReq, n.Hops = 101, addr, 101, hops }
		}
		for _, p := range []api.Peer{peer(2), peer(5), at(0, 60), at(999, 60), at(9, 77), at(44, 60)} {
			for _, from := range []api.Peer{peer(4), at(4, 77)} {
				takes(t, n, found(from, 93, false, p), on(p.Addr, 6), to(p.Addr, find(peer(1), 101, small(777), 70, 71)))
			}
		}
		for _, p := range []api.Peer{peer(1), at(1, 15), at(7, 10), peer(4), at(4, 60), at(70, 60), at(71, 700)} {
			takes(t, n, found(peer(4), 93, false, p), over)
		}
		for _, hops := range []int{0, 1, 30, 31, 32, 33, 63, 64} {
			x := with(n, func(n *api.Node) { n.Hops, n.Avoid = hops, nil })
			if hops < 32 {
				takes(t, x, found(peer(4), 93, false, peer(5)), on(5, hops+1), to(5, find(peer(1), 101, small(777))))
			} else {
				takes(t, x, found(peer(4), 93, false, peer(5)), over)
			}
			takes(t, x, found(peer(4), 93, false, peer(4)), over)
		}
		full := with(n, func(n *api.Node) { n.Avoid = numbers(60, 16) })
		takes(t, full, found(peer(4), 93, false, peer(5)), on(5, 6), to(5, find(peer(1), 101, small(777), numbers(60, 16)...)))
		takes(t, full, found(peer(4), 93, false, at(60, 5)), over)
		takes(t, full, found(peer(4), 93, false, at(75, 5)), over)
	}
}

func TestAsk(t *testing.T) {
	for _, from := range []api.Peer{peer(2), peer(5), at(0, 5), at(999, 5)} {
		for _, req := range []uint64{0, 8, greatest} {
			takes(t, waiting(), saidReq(api.Ask, from, req), stays, to(from.Addr, told(peer(1), req, peer(5), peers(2, 3, 4)...)))
			alone, _ := node.Alone(peer(1), 3)
			takes(t, alone, saidReq(api.Ask, from, req), stays, to(from.Addr, told(peer(1), req, none())))
			takes(t, outside(), saidReq(api.Ask, from, req), stays)
			takes(t, with(waiting(), func(n *api.Node) { n.Joined = false }), saidReq(api.Ask, from, req), stays)
		}
	}
	most := with(joined(), func(n *api.Node) { n.Table.Succ, n.Copies = peers(2, 3, 4, 5, 6, 7, 8, 9), 1 })
	takes(t, most, saidReq(api.Ask, peer(2), 8), stays, to(2, told(peer(1), 8, peer(5), most.Table.Succ...)))
}

func TestTold(t *testing.T) {
	n := waiting()
	notice := func(addr int) api.Send { return to(addr, said(api.Notify, peer(1))) }
	adopts := func(succ ...api.Peer) func(n *api.Node) {
		return func(n *api.Node) { n.AskTo, n.Table.Succ = -1, succ }
	}
	takes(t, n, told(peer(2), 91, none()), adopts(peers(2)...), notice(2))
	takes(t, n, told(peer(2), 91, peer(1)), adopts(peers(2)...), notice(2))
	takes(t, n, told(peer(2), 91, peer(1), peers(3, 4, 5)...), adopts(peers(2, 3, 4)...), notice(2))
	takes(t, n, told(peer(2), 91, peer(3), peers(3, 1, 4)...), adopts(peers(2, 3)...), notice(2))
	takes(t, n, told(peer(2), 91, peer(5), peers(2, 2, 5)...), adopts(peers(2, 5)...), notice(2))
	takes(t, n, told(peer(2), 91, none(), at(7, 10), peer(4)), adopts(peers(2)...), notice(2))

	// the one ahead of it is closer
	for _, addr := range []int{0, 9, 999} {
		closer := at(addr, 15)
		takes(t, n, told(peer(2), 91, closer), adopts(closer, peer(2)), notice(addr))
		takes(t, n, told(peer(2), 91, closer, peers(3, 4)...), adopts(closer, peer(2), peer(3)), notice(addr))
		takes(t, n, told(peer(2), 91, closer, peers(1, 4)...), adopts(closer, peer(2)), notice(addr))
		takes(t, n, told(peer(2), 91, closer, closer, peer(3)), adopts(closer, peer(2), peer(3)), notice(addr))
	}
	takes(t, n, told(peer(2), 91, at(9, 11), peers(3, 4)...), adopts(at(9, 11), peer(2), peer(3)), notice(9))
	takes(t, n, told(peer(2), 91, at(9, 19), peers(3, 4)...), adopts(at(9, 19), peer(2), peer(3)), notice(9))
	for _, p := range []api.Peer{at(9, 20), at(9, 21), at(9, 9), at(9, 10), at(1, 15), peer(3), peer(5)} {
		takes(t, n, told(peer(2), 91, p, peers(3, 4)...), adopts(peers(2, 3, 4)...), notice(2))
	}

	// who answers goes by the address, and closer is what is closer than that one
	takes(t, n, told(at(2, 40), 91, at(9, 35), peer(5)), adopts(at(9, 35), at(2, 40), peer(5)), notice(9))
	takes(t, n, told(at(2, 14), 91, at(9, 15), peer(5)), adopts(at(2, 14), peer(5)), notice(2))
	takes(t, n, told(at(2, 40), 91, at(2, 35), peer(5)), adopts(at(2, 35), peer(5)), notice(2))

	eight := peers(3, 4, 5, 6, 7, 8, 9, 10)
	for copies, succ := range map[int][]api.Peer{1: peers(2), 2: peers(2, 3), 7: peers(2, 3, 4, 5, 6, 7, 8), 8: peers(2, 3, 4, 5, 6, 7, 8, 9)} {
		n.Copies = copies
		takes(t, n, told(peer(2), 91, none(), eight...), adopts(succ...), notice(2))
		closer := append([]api.Peer{at(0, 15)}, succ[:copies-1]...)
		takes(t, n, told(peer(2), 91, at(0, 15), eight...), adopts(closer...), notice(0))
	}
	n.Copies, n.Joined = 3, false
	takes(t, n, told(peer(2), 91, at(9, 15), peers(3, 4)...), adopts(at(9, 15), peer(2), peer(3)), notice(9))
	n.Table, n.AskTo = bare(peer(1)), 0
	takes(t, n, told(at(0, 5), 91, at(9, 3), peers(3, 4)...), adopts(at(9, 3), at(0, 5), peer(3)), notice(9))
}

func TestToldForNobody(t *testing.T) {
	n := waiting()
	idle := with(n, func(n *api.Node) { n.AskTo = -1 })
	for _, p := range []api.Peer{none(), peer(1), at(9, 15)} {
		takes(t, n, told(peer(3), 91, p, peers(5)...), stays)
		takes(t, n, told(peer(4), 93, p, peers(5)...), stays)
		takes(t, n, told(peer(2), 90, p, peers(5)...), stays)
		takes(t, n, told(peer(2), 92, p, peers(5)...), stays)
		takes(t, n, told(peer(2), 0, p, peers(5)...), stays)
		takes(t, n, told(peer(2), 91+1<<32, p, peers(5)...), stays)
		takes(t, idle, told(peer(2), 91, p, peers(5)...), stays)
		m, _, _ := holdTake(t, n, told(peer(2), 91, p, peers(5)...))
		takes(t, m, told(peer(2), 91, p, peers(4)...), stays)
	}
}

func TestNotify(t *testing.T) {
	for _, in := range []bool{true, false} {
		n := with(waiting(), func(n *api.Node) { n.Joined = in })
		for _, p := range []api.Peer{at(9, 51), at(9, 55), at(9, -1), at(9, 0), at(0, 9), at(999, 5), at(5, 60), at(2, 60)} {
			takes(t, n, said(api.Notify, p), func(n *api.Node) { n.Table.Pred = p })
		}
		for _, p := range []api.Peer{peer(5), at(9, 50), at(9, 49), at(9, 11), peer(2), at(5, 45)} {
			takes(t, n, said(api.Notify, p), stays)
		}
		n.Table.Pred = none()
		for _, p := range []api.Peer{peer(5), at(9, 11), at(0, 9), at(999, 11), peer(2)} {
			takes(t, n, said(api.Notify, p), func(n *api.Node) { n.Table.Pred = p })
		}
	}
}

func TestPing(t *testing.T) {
	for _, n := range []api.Node{waiting(), joined(), outside()} {
		for _, from := range []api.Peer{peer(2), peer(9), at(0, 5), at(999, 5)} {
			for _, req := range []uint64{0, 9, greatest} {
				takes(t, n, saidReq(api.Ping, from, req), stays, to(from.Addr, saidReq(api.Pong, peer(1), req)))
			}
		}
	}
}

func TestPong(t *testing.T) {
	for _, in := range []bool{true, false} {
		n := with(waiting(), func(n *api.Node) { n.Joined = in })
		for _, from := range []api.Peer{peer(3), at(3, 77)} {
			takes(t, n, saidReq(api.Pong, from, 92), func(n *api.Node) { n.PingTo = -1 })
		}
		for _, from := range []api.Peer{peer(2), peer(4), at(9, 30), at(0, 5)} {
			takes(t, n, saidReq(api.Pong, from, 92), stays)
		}
		for _, req := range []uint64{0, 91, 93, 100, 92 + 1<<32, greatest} {
			takes(t, n, saidReq(api.Pong, peer(3), req), stays)
		}
		idle := with(n, func(n *api.Node) { n.PingTo = -1 })
		takes(t, idle, saidReq(api.Pong, peer(3), 92), stays)
		zero := with(n, func(n *api.Node) { n.PingTo, n.PingReq = 0, 0 })
		takes(t, zero, saidReq(api.Pong, at(0, 5), 0), func(n *api.Node) { n.PingTo = -1 })
		takes(t, zero, saidReq(api.Pong, at(0, 5), 1), stays)
	}
}

func TestBye(t *testing.T) {
	forget := func(succ []api.Peer, fingers ...int) func(n *api.Node) {
		return func(n *api.Node) {
			n.Table.Succ = succ
			unset(n, fingers...)
		}
	}
	pred := func(p api.Peer) func(n *api.Node) {
		return func(n *api.Node) {
			n.Table.Pred = p
			unset(n, 5)
		}
	}
	for _, in := range []bool{true, false} {
		n := with(waiting(), func(n *api.Node) { n.Joined = in })
		// of neither: who is told plays no part
		takes(t, n, bye(peer(3), at(9, 55), peers(6, 7)...), forget(peers(2, 4), 4))
		takes(t, n, bye(peer(4), peer(3), peers(6, 7)...), forget(peers(2, 3)))
		takes(t, n, bye(peer(9), at(8, 55), peers(6, 7)...), stays)
		takes(t, n, bye(at(0, 15), at(8, 55), peers(6, 7)...), stays)
		// of Pred, by its address alone
		for _, from := range []api.Peer{peer(5), at(5, 33)} {
			takes(t, n, bye(from, peer(4), peers(1, 2)...), pred(peer(4)))
			takes(t, n, bye(from, peer(4), peers(6, 7)...), pred(peer(4)))
			takes(t, n, bye(from, at(0, 11)), pred(at(0, 11)))
			takes(t, n, bye(from, at(999, 9)), pred(at(999, 9)))
			takes(t, n, bye(from, peer(5)), pred(peer(5)))
			for _, p := range []api.Peer{none(), peer(1), at(1, 55), at(9, 10)} {
				takes(t, n, bye(from, p, peers(6, 7)...), pred(none()))
			}
		}
		// of First, by its address alone
		for _, from := range []api.Peer{peer(2), at(2, 33)} {
			takes(t, n, bye(from, peer(1), peers(3, 4, 5)...), forget(peers(3, 4, 5), 0, 1, 2, 3))
			takes(t, n, bye(from, at(9, 55), peers(6)...), forget(peers(6), 0, 1, 2, 3))
			takes(t, n, bye(from, at(9, 55), peers(6, 7, 8, 9)...), forget(peers(6, 7, 8), 0, 1, 2, 3))
			takes(t, n, bye(from, none(), peers(6, 6, 1, 7)...), forget(peers(6), 0, 1, 2, 3))
			takes(t, n, bye(from, none(), peers(6, 6, 2, 7)...), forget(peers(6, 2, 7), 0, 1, 2, 3))
			takes(t, n, bye(from, none(), peers(2, 7)...), forget(peers(2, 7), 0, 1, 2, 3))
			takes(t, n, bye(from, none(), at(0, 11)), forget([]api.Peer{at(0, 11)}, 0, 1, 2, 3))
			takes(t, n, bye(from, none()), forget(peers(3, 4), 0, 1, 2, 3))
			for _, p := range []api.Peer{peer(1), at(1, 55), at(9, 10)} {
				takes(t, n, bye(from, none(), p, peer(6)), forget(peers(3, 4), 0, 1, 2, 3))
			}
		}
		for copies, succ := range map[int][]api.Peer{1: peers(6), 2: peers(6, 7), 8: peers(6, 7, 8, 9, 3, 4, 5, 11)} {
			n.Copies = copies
			takes(t, n, bye(peer(2), none(), peers(6, 7, 8, 9, 3, 4, 5, 11)...), forget(succ, 0, 1, 2, 3))
		}
	}
}

// TestByeOfBoth is of a ring of two, and of one whose Pred is the first one behind it, too.
func TestByeOfBoth(t *testing.T) {
	n := with(joined(), func(n *api.Node) {
		n.Table = bare(peer(1))
		n.Table.Pred, n.Table.Succ, n.Table.Fingers[0] = peer(2), peers(2), peer(2)
	})
	gone := func(pred api.Peer, succ ...api.Peer) func(n *api.Node) {
		return func(n *api.Node) {
			n.Table.Pred, n.Table.Succ = pred, succ
			unset(n, 0)
		}
	}
	takes(t, n, bye(peer(2), peer(1), peer(1)), gone(none()))
	takes(t, n, bye(peer(2), none()), gone(none()))
	takes(t, n, bye(peer(2), peer(5), peer(3)), gone(peer(5), peer(3)))
	takes(t, n, bye(at(2, 35), peer(5), peer(3)), gone(peer(5), peer(3)))
	takes(t, n, bye(peer(2), peer(5)), gone(peer(5)))
	takes(t, n, bye(peer(2), none(), peers(3, 4)...), gone(none(), peers(3, 4)...))
	takes(t, n, bye(peer(2), peer(5), peers(1, 4)...), gone(peer(5)))
	apart := with(n, func(n *api.Node) { n.Table.Pred = at(2, 55) })
	takes(t, apart, bye(peer(2), peer(5), peer(3)), gone(peer(5), peer(3)))
	// alone, with one ahead: that is not First
	alone := with(n, func(n *api.Node) { n.Table.Succ = nil })
	takes(t, alone, bye(peer(2), peer(5), peer(3)), gone(peer(5)))
	takes(t, alone, bye(peer(4), peer(5), peer(3)), stays)
}

func TestLeave(t *testing.T) {
	leaves := func(n api.Node, sends ...api.Send) {
		t.Helper()
		for _, in := range []bool{true, false} {
			n.Joined = in
			if out, _ := holdLeave(t, n); !sameSends(out, sends) {
				t.Errorf("P15.4: Leave(%v): %v, want %v", n, out, sends)
			}
		}
	}
	n := waiting()
	l := bye(peer(1), peer(5), peers(2, 3, 4)...)
	leaves(n, to(2, l), to(5, l))
	n.Copies = 1
	leaves(n, to(2, l), to(5, l))
	n.Table.Pred = none()
	leaves(n, to(2, bye(peer(1), none(), peers(2, 3, 4)...)))
	n.Table.Pred = peer(2)
	leaves(n, to(2, bye(peer(1), peer(2), peers(2, 3, 4)...)))
	n.Table.Pred = peer(3)
	leaves(n, to(2, bye(peer(1), peer(3), peers(2, 3, 4)...)), to(3, bye(peer(1), peer(3), peers(2, 3, 4)...)))
	for _, p := range []api.Peer{at(2, 55), at(9, 20)} {
		n.Table.Pred = p
		leaves(n, to(2, bye(peer(1), p, peers(2, 3, 4)...)), to(p.Addr, bye(peer(1), p, peers(2, 3, 4)...)))
	}
	n.Table.Succ = nil
	n.Table.Pred = at(0, 5)
	leaves(n, to(0, bye(peer(1), at(0, 5))))
	n.Table.Pred = none()
	leaves(n)
	n.Table.Succ = []api.Peer{at(0, 5), at(999, 9)}
	leaves(n, to(0, bye(peer(1), none(), n.Table.Succ...)))
	alone, _ := node.Alone(peer(1), 1)
	leaves(with(alone, func(n *api.Node) { n.Boot = 3 }))
	if out, e := node.Leave(alone); e != api.OK || len(out) > 0 {
		t.Errorf("P15.4: Leave of one alone: %v, %d", out, e)
	}
	for _, wrong := range wrongs() {
		holdLeave(t, wrong)
	}
}

// TestAnswersAreApart writes to what one call told: what the same call told once more stays.
func TestAnswersAreApart(t *testing.T) {
	for _, n := range []api.Node{waiting(), joined(), outside()} {
		for kind := 1; kind <= 3; kind++ {
			a, out, _ := node.Tick(n, kind)
			b, more, _ := node.Tick(n, kind)
			kept, keptMore := clone(b), cloneSends(more)
			spoil(t, "Tick", a, out)
			if !same(b, kept) || !sameSends(more, keptMore) {
				t.Errorf("R2: two ticks %d share memory", kind)
			}
		}
		for _, l := range letters() {
			a, out, _ := node.Take(n, l)
			b, more, _ := node.Take(n, l)
			kept, keptMore := clone(b), cloneSends(more)
			spoil(t, "Take", a, out)
			if !same(b, kept) || !sameSends(more, keptMore) {
				t.Errorf("R2: two that took %v share memory", l)
			}
		}
	}
}

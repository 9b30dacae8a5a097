package walk_test

import (
	"bytes"
	"math"
	"math/big"
	"math/rand"
	"slices"
	"testing"

	"espalier/api"
	"espalier/circle"
	"espalier/table"
	"espalier/walk"
)

// around is two to the power of 160: what the ring's sums are taken by.
var around = new(big.Int).Lsh(big.NewInt(1), 160)

// sizes are numbers that are no address, no number of copies, and no number of hops.
var sizes = []int{-1, -2, -160, 1000, 1001, 1 << 16, math.MinInt, math.MinInt + 1, math.MaxInt, math.MaxInt - 1, math.MinInt32, math.MaxInt32, 1 << 32, 1<<32 + 1, 1<<32 + 8, 1<<32 + 64, -1 << 32, -1<<32 + 1, 1 << 62, 1<<62 + 1}

func number(id api.ID) *big.Int { return new(big.Int).SetBytes(id[:]) }

func place(n *big.Int) api.ID {
	var id api.ID
	new(big.Int).Mod(n, around).FillBytes(id[:])
	return id
}

// small is a place; below 0 it stands at the ring's end.
func small(n int64) api.ID { return place(big.NewInt(n)) }

func plus(id api.ID, n int64) api.ID {
	return place(new(big.Int).Add(number(id), big.NewInt(n)))
}

// power is two to the power of k, and n more, clockwise from a place.
func power(from api.ID, k uint, n int64) api.ID {
	step := new(big.Int).Lsh(big.NewInt(1), k)
	return plus(place(step.Add(step, number(from))), n)
}

func at(addr int, n int64) api.Peer { return api.Peer{Addr: addr, ID: small(n)} }

func none() api.Peer { return api.Peer{Addr: -1} }

// peer is one of those in whose ring the address n stands at ten times n.
func peer(n int) api.Peer { return at(n, int64(10*n)) }

func peers(ns ...int) []api.Peer {
	var l []api.Peer
	for _, n := range ns {
		l = append(l, peer(n))
	}
	return l
}

// ring is the circle of the addresses 1 to n.
func ring(n int) []api.Peer {
	var l []api.Peer
	for i := range n {
		l = append(l, peer(i+1))
	}
	return l
}

// circleOf is the circle of peers with those IDs, in whatever order they are told; each once. Their Addrs do not rise.
func circleOf(ids ...api.ID) []api.Peer {
	ids = slices.Clone(ids)
	slices.SortFunc(ids, func(a, b api.ID) int { return bytes.Compare(a[:], b[:]) })
	var l []api.Peer
	for i, id := range slices.Compact(ids) {
		l = append(l, api.Peer{Addr: (i*389 + 7) % 1000, ID: id})
	}
	return l
}

// bare is a table of which nothing is known but Self, and those behind it.
func bare(self api.Peer, succ ...api.Peer) api.Table {
	return api.Table{Self: self, Pred: none(), Succ: succ, Fingers: slices.Repeat([]api.Peer{none()}, 160)}
}

// chain are tables of peers each of which knows the next one alone, round the ring; one that is alone knows none.
func chain(l []api.Peer) []api.Table {
	if len(l) == 1 {
		return []api.Table{bare(l[0])}
	}
	var tables []api.Table
	for i, p := range l {
		tables = append(tables, bare(p, l[(i+1)%len(l)]))
	}
	return tables
}

func clone(l []api.Table) []api.Table {
	l = slices.Clone(l)
	for i := range l {
		l[i].Succ, l[i].Fingers = slices.Clone(l[i].Succ), slices.Clone(l[i].Fingers)
	}
	return l
}

func same(x, y []api.Table) bool {
	return slices.EqualFunc(x, y, func(x, y api.Table) bool {
		return x.Self == y.Self && x.Pred == y.Pred && slices.Equal(x.Succ, y.Succ) && slices.Equal(x.Fingers, y.Fingers)
	})
}

// From here to walkOf stands what the document's words say, said apart from the packages.

// way is how far one place is clockwise from another.
func way(from, to api.ID) *big.Int {
	d := new(big.Int).Sub(number(to), number(from))
	return d.Mod(d, around)
}

func open(a, x, b api.ID) bool {
	if a == b {
		return x != a
	}
	return way(a, x).Sign() > 0 && way(a, x).Cmp(way(a, b)) < 0
}

func half(a, x, b api.ID) bool { return open(a, x, b) || x == b }

func isAddr(addr int) bool { return addr >= 0 && addr <= 999 }

func isCircle(l []api.Peer) bool {
	addrs := map[int]int{}
	rise := true
	for i, p := range l {
		addrs[p.Addr]++
		rise = rise && isAddr(p.Addr) && (i == 0 || number(l[i-1].ID).Cmp(number(p.ID)) < 0)
	}
	return rise && len(l) >= 1 && len(l) <= 16 && len(addrs) == len(l)
}

func ownerOf(l []api.Peer, id api.ID) int {
	for i, p := range l {
		if bytes.Compare(p.ID[:], id[:]) >= 0 {
			return i
		}
	}
	return 0
}

func settledOf(l []api.Peer, r int) ([]api.Table, api.Errno) {
	if !isCircle(l) || r < 1 || r > 8 {
		return nil, api.ErrArg
	}
	var tables []api.Table
	for i, p := range l {
		x := bare(p)
		for n := 1; n < len(l); n++ {
			x.Pred = l[(i+n)%len(l)]
			if n <= r {
				x.Succ = append(x.Succ, x.Pred)
			}
		}
		for k := range uint(160) {
			if own := l[ownerOf(l, power(p.ID, k, 0))]; own != p {
				x.Fingers[k] = own
			}
		}
		tables = append(tables, x)
	}
	return tables, api.OK
}

func isRight(x api.Table) bool {
	other := func(p api.Peer) bool {
		return isAddr(p.Addr) && p.Addr != x.Self.Addr && p.ID != x.Self.ID
	}
	addrs := map[int]int{}
	right := isAddr(x.Self.Addr) && len(x.Succ) <= 8 && len(x.Fingers) == 160
	for _, p := range x.Succ {
		addrs[p.Addr]++
		right = right && other(p)
	}
	for _, p := range append([]api.Peer{x.Pred}, x.Fingers...) {
		right = right && (p == none() || other(p))
	}
	return right && len(addrs) == len(x.Succ)
}

// nextOf is the farthest known peer ahead of the place, of several the one of the least Addr; of each Addr the first one alone is known.
func nextOf(x api.Table, id api.ID) (api.Peer, bool) {
	firsts := map[int]int{}
	best, far := none(), new(big.Int)
	for _, p := range slices.Concat([]api.Peer{x.Pred}, x.Succ, x.Fingers) {
		firsts[p.Addr]++
		if firsts[p.Addr] > 1 || p == none() || !open(x.Self.ID, p.ID, id) {
			continue
		}
		if c := way(x.Self.ID, p.ID).Cmp(far); c > 0 || c == 0 && p.Addr < best.Addr {
			best, far = p, way(x.Self.ID, p.ID)
		}
	}
	return best, far.Sign() > 0
}

func walkOf(l []api.Table, from int, id api.ID, most int) (api.Route, api.Errno) {
	places := map[int]int{}
	right := len(l) <= 16 && most >= 0 && most <= 64
	for i, x := range l {
		places[x.Self.Addr] = i
		right = right && isRight(x)
	}
	if _, has := places[from]; !right || !has || len(places) < len(l) {
		return api.Route{}, api.ErrArg
	}
	for hops := []int{from}; ; {
		x := l[places[hops[len(hops)-1]]]
		first := append(slices.Clone(x.Succ), x.Self)[0]
		if half(x.Self.ID, id, first.ID) {
			return api.Route{Hops: hops, End: first}, api.OK
		}
		p, found := nextOf(x, id)
		if !found {
			return api.Route{}, api.ErrNone
		}
		hops = append(hops, p.Addr)
		if len(hops) > most+1 {
			return api.Route{}, api.ErrLimit
		}
		if _, has := places[p.Addr]; !has {
			return api.Route{}, api.ErrRange
		}
	}
}

// settle holds a settled ring against the plain one; the row that was handed in stays.
func settle(t *testing.T, l []api.Peer, r int) []api.Table {
	t.Helper()
	kept := slices.Clone(l)
	x, e := walk.Settled(l, r)
	if want, code := settledOf(kept, r); !same(x, want) || e != code {
		t.Errorf("P13.1: Settled(%v, %d): %v, %d, want %v, %d", l, r, x, e, want, code)
	}
	if e != api.OK && x != nil {
		t.Errorf("R2: Settled(%v, %d): %v beside an error", l, r, x)
	}
	if !slices.Equal(l, kept) {
		t.Errorf("R2: %v became %v", kept, l)
	}
	return x
}

func sameRoute(x, y api.Route) bool { return slices.Equal(x.Hops, y.Hops) && x.End == y.End }

// hold holds one walk against the plain one; the tables that were handed in stay.
func hold(t *testing.T, l []api.Table, from int, id api.ID, most int) (api.Route, api.Errno) {
	t.Helper()
	kept := clone(l)
	x, e := walk.Walk(l, from, id, most)
	if want, code := walkOf(kept, from, id, most); !sameRoute(x, want) || e != code {
		t.Errorf("P13.2: Walk(%v, %d, %x, %d): %v, %d, want %v, %d", l, from, id, most, x, e, want, code)
	}
	if !same(l, kept) {
		t.Errorf("R2: %v became %v", kept, l)
	}
	return x, e
}

// ends asks for one walk, whose hops and end are told.
func ends(t *testing.T, l []api.Table, from int, n int64, most int, end api.Peer, hops ...int) {
	t.Helper()
	x, e := hold(t, l, from, small(n), most)
	if want := (api.Route{Hops: hops, End: end}); !sameRoute(x, want) || e != api.OK {
		t.Errorf("P13.2: from %d to %d with %d hops: %v, %d, want %v", from, n, most, x, e, want)
	}
}

// fails asks for one walk that has an error, beside which nothing is told.
func fails(t *testing.T, what string, l []api.Table, from int, n int64, most int, want api.Errno) {
	t.Helper()
	x, e := hold(t, l, from, small(n), most)
	if e != want || len(x.Hops) != 0 || x.End != (api.Peer{}) {
		t.Errorf("P13.2: %s: from %d to %d with %d hops: %v, %d, want %d", what, from, n, most, x, e, want)
	}
}

func TestExample(t *testing.T) {
	l := []api.Peer{at(10, 10), at(20, 20), at(30, 30)}
	for r := 1; r <= 8; r++ {
		ends(t, settle(t, l, r), 10, 25, 64, at(30, 30), 10, 20)
	}
}

// TestSettledParts spells a ring of 10, 20, 30, 40 and 50, whose fingers stand at 1, 2, 4, 8, 16, 32 and so on from each.
func TestSettledParts(t *testing.T) {
	l := ring(5)
	x := settle(t, l, 3)
	if len(x) != 5 {
		t.Fatalf("P13.1: there are %d tables", len(x))
	}
	fingers := [][]api.Peer{peers(2, 2, 2, 2, 3, 5), peers(3, 3, 3, 3, 4), peers(4, 4, 4, 4, 5), peers(5, 5, 5, 5), peers(1, 1, 1, 1, 1, 1)}
	ahead, behind := peers(5, 1, 2, 3, 4), [][]api.Peer{peers(2, 3, 4), peers(3, 4, 5), peers(4, 5, 1), peers(5, 1, 2), peers(1, 2, 3)}
	for i, y := range x {
		if y.Self != l[i] || y.Pred != ahead[i] || !slices.Equal(y.Succ, behind[i]) {
			t.Errorf("P13.1: the table of %v: %v, %v, %v", l[i], y.Self, y.Pred, y.Succ)
		}
		// What is farther than all others goes round the ring, to the first one.
		want := append(slices.Clone(fingers[i]), slices.Repeat(peers(1), 160-len(fingers[i]))...)
		if i == 0 {
			copy(want[6:], slices.Repeat([]api.Peer{none()}, 154))
		}
		if !slices.Equal(y.Fingers, want) {
			t.Errorf("P13.1: the fingers of %v: %v, want %v", l[i], y.Fingers, want)
		}
	}
}

func TestSettledAlone(t *testing.T) {
	for _, p := range []api.Peer{at(0, 0), at(999, -1), peer(1), {Addr: 7, ID: power(small(0), 159, 0)}} {
		for r := 1; r <= 8; r++ {
			if x := settle(t, []api.Peer{p}, r); !same(x, []api.Table{bare(p)}) {
				t.Errorf("P13.1: %v alone: %v", p, x)
			}
		}
	}
}

func TestSettledTwo(t *testing.T) {
	a, b := at(3, 10), at(2, 20)
	for r := 1; r <= 8; r++ {
		x := settle(t, []api.Peer{a, b}, r)
		if len(x) != 2 || x[0].Pred != b || x[1].Pred != a || !slices.Equal(x[0].Succ, []api.Peer{b}) || !slices.Equal(x[1].Succ, []api.Peer{a}) {
			t.Fatalf("P13.1: of two: %v", x)
		}
		for k := range 160 {
			// From 10 on the fingers 0 to 3 stand at 18 or ahead of it; from 20 on none is so far that it comes to 20 again.
			want := b
			if k > 3 {
				want = none()
			}
			if x[0].Fingers[k] != want || x[1].Fingers[k] != a {
				t.Errorf("P13.1: of two the finger %d: %v, %v", k, x[0].Fingers[k], x[1].Fingers[k])
			}
		}
	}
}

// TestSettledSizes is of rings of any size, and any number of copies.
func TestSettledSizes(t *testing.T) {
	for n := range 19 {
		for r := range 12 {
			x := settle(t, ring(n), r)
			if right := n >= 1 && n <= 16 && r >= 1 && r <= 8; len(x) > 0 != right || right && len(x) != n {
				t.Errorf("P13.1: of %d peers and %d copies there are %d tables", n, r, len(x))
			}
			for _, y := range x {
				if len(y.Succ) != min(r, n-1) || len(y.Fingers) != 160 {
					t.Errorf("P13.1: of %d peers and %d copies: %v", n, r, y)
				}
			}
		}
		for _, r := range sizes {
			if x, e := walk.Settled(ring(n), r); e != api.ErrArg || x != nil {
				t.Errorf("P13.1: of %d peers and %d copies: %v, %d, want ErrArg", n, r, x, e)
			}
		}
	}
	for _, l := range [][]api.Peer{nil, {}, ring(17), make([]api.Peer, 1<<18)} {
		if x, e := walk.Settled(l, 3); e != api.ErrArg || x != nil {
			t.Errorf("P13.1: of %d peers: %v, %d, want ErrArg", len(l), x, e)
		}
	}
}

// TestSettledWrongCircles has one peer of a right circle be another one.
func TestSettledWrongCircles(t *testing.T) {
	refused := func(l []api.Peer) {
		t.Helper()
		for _, r := range []int{1, 3, 8} {
			if x, e := walk.Settled(l, r); e != api.ErrArg || x != nil {
				t.Errorf("P13.1: Settled(%v, %d): %v, %d, want ErrArg", l, r, x, e)
			}
		}
	}
	for _, n := range []int{1, 2, 3, 5, 16} {
		for i := range n {
			with := func(p api.Peer) []api.Peer {
				l := ring(n)
				l[i] = p
				return l
			}
			for _, addr := range sizes {
				refused(with(api.Peer{Addr: addr, ID: peer(i + 1).ID}))
			}
			for j := range n {
				if i != j {
					refused(with(at(j+1, int64(10*i+10))))
					refused(with(at(i+1, int64(10*j+10))))
					refused(with(peer(j + 1)))
				}
			}
			if i > 0 {
				refused(with(at(i+1, int64(10*i)-1)))
				refused(with(at(i+1, 0)))
			}
			if i < n-1 {
				refused(with(at(i+1, -1)))
			}
			settle(t, with(at(0, int64(10*i)+11)), 3)
			settle(t, with(at(999, int64(10*i)+9)), 3)
		}
	}
}

// near are the places at which answers change, those beside them, and edges.
func near(l []api.Peer) []api.ID {
	ids := []api.ID{small(0), small(1), small(-1), small(-2), power(small(0), 159, 0), power(small(0), 80, 0)}
	for _, p := range l {
		ids = append(ids, p.ID, plus(p.ID, 1), plus(p.ID, -1))
	}
	return ids
}

// circles are of one peer, of few, and of as many as may be: at the ring's ends, side by side, far from one another, at powers of two from one another; and any.
func circles() [][]api.Peer {
	list := [][]api.Peer{
		ring(1), ring(2), ring(3), ring(5), ring(16), circleOf(small(0)), circleOf(small(-1)), circleOf(small(0), small(-1)),
		circleOf(small(0), small(1)), circleOf(small(-2), small(-1)), circleOf(small(-1), small(0), small(1)),
		circleOf(small(5), power(small(5), 159, 0)), circleOf(small(5), power(small(5), 159, -1)), circleOf(small(5), power(small(5), 159, 1)),
	}
	for _, n := range []int64{3, 15, 16} {
		var top, dense, powers, shorter, longer []api.ID
		for i := range n {
			top = append(top, api.ID{0: byte(i * 16), 19: 3})
			dense = append(dense, small(i-8))
			powers = append(powers, power(small(-7), uint(i), 0))
			shorter = append(shorter, power(small(40), uint(159-10*i), -1))
			longer = append(longer, power(small(-40), uint(159-i), 1))
		}
		list = append(list, circleOf(top...), circleOf(dense...), circleOf(powers...), circleOf(shorter...), circleOf(longer...))
	}
	s := source{rand.New(rand.NewSource(13))}
	for range 12 {
		var ids []api.ID
		for range 1 + s.Intn(16) {
			ids = append(ids, s.id())
		}
		list = append(list, circleOf(ids...))
	}
	return list
}

func TestSettledCircles(t *testing.T) {
	for _, l := range circles() {
		for _, r := range []int{0, 1, 2, 7, 8, 9} {
			for _, x := range settle(t, l, r) {
				if !table.Is(x) {
					t.Errorf("P13.1: of %v and %d copies %v is not right", l, r, x)
				}
			}
		}
	}
	for _, addrs := range [][]int{{0}, {999}, {0, 999}, {5, 3, 9, 1}, {0, 1, 2, 3, 4, 5, 6, 7, 8, 9, 10, 11, 12, 13, 14, 15}} {
		l, e := circle.Of(addrs)
		if e != api.OK || len(settle(t, l, 4)) != len(addrs) {
			t.Errorf("P13.1: Settled of the nodes %v: %d", addrs, e)
		}
	}
}

func TestWalkInRing(t *testing.T) {
	x := settle(t, ring(5), 2)
	ends(t, x, 1, 15, 64, peer(2), 1)
	ends(t, x, 1, 20, 64, peer(2), 1)
	ends(t, x, 1, 21, 64, peer(3), 1, 2)
	ends(t, x, 1, 31, 64, peer(4), 1, 3)
	ends(t, x, 1, 41, 64, peer(5), 1, 3, 4)
	ends(t, x, 1, 51, 64, peer(1), 1, 5)
	ends(t, x, 1, 10, 64, peer(1), 1, 5)
	ends(t, x, 1, 9, 64, peer(1), 1, 5)
	ends(t, x, 1, 11, 64, peer(2), 1)
	ends(t, x, 1, 0, 64, peer(1), 1, 5)
	ends(t, x, 1, -1, 64, peer(1), 1, 5)
	ends(t, x, 5, 0, 64, peer(1), 5)
	ends(t, x, 5, -1, 64, peer(1), 5)
	ends(t, x, 5, 51, 64, peer(1), 5)
	ends(t, x, 5, 50, 64, peer(5), 5, 4)
	ends(t, x, 3, 21, 64, peer(3), 3, 2)
	ends(t, x, 3, 20, 64, peer(2), 3, 1)
	ends(t, settle(t, ring(5), 1), 3, 55, 64, peer(1), 3, 5)
}

// TestWalkAlone is over at once, wherever the place is.
func TestWalkAlone(t *testing.T) {
	for _, p := range []api.Peer{at(0, 0), at(999, -1), peer(1)} {
		l := []api.Table{bare(p)}
		for _, id := range near([]api.Peer{p}) {
			for _, most := range []int{0, 1, 63, 64} {
				if x, e := hold(t, l, p.Addr, id, most); e != api.OK || !sameRoute(x, api.Route{Hops: []int{p.Addr}, End: p}) {
					t.Errorf("P13.2: alone at %v, to %x: %v, %d", p, id, x, e)
				}
			}
		}
	}
	// Who knows nobody behind it has all places, whomever else it knows.
	x := bare(peer(1))
	x.Pred, x.Fingers[9] = peer(3), peer(2)
	ends(t, []api.Table{x, bare(peer(2)), bare(peer(3))}, 1, 25, 0, peer(1), 1)
}

// TestWalkMost has chains, through which a walk goes peer by peer, with just as many hops as it needs, one less, and others.
func TestWalkMost(t *testing.T) {
	for _, n := range []int{2, 3, 8, 16} {
		x := chain(ring(n))
		for from := 1; from <= n; from++ {
			var hops []int
			for i := range n {
				hop := (from-1+i)%n + 1
				hops = append(hops, hop)
				for _, most := range []int{0, i - 2, i - 1, i, i + 1, 15, 63, 64} {
					if end := hop%n + 1; most >= i {
						ends(t, x, from, int64(10*end), most, peer(end), hops...)
						ends(t, x, from, int64(10*end)-9, most, peer(end), hops...)
					} else if most >= 0 {
						fails(t, "one hop too few", x, from, int64(10*end), most, api.ErrLimit)
					}
				}
			}
		}
	}
	x := chain(ring(16))
	for most := range 65 {
		if most >= 15 {
			ends(t, x, 1, 10, most, peer(1), 1, 2, 3, 4, 5, 6, 7, 8, 9, 10, 11, 12, 13, 14, 15, 16)
		} else {
			fails(t, "too few hops", x, 1, 10, most, api.ErrLimit)
		}
	}
}

// TestWalkRound goes on round and round, since the peers 2 and 3 do not stand where others take them to be.
func TestWalkRound(t *testing.T) {
	two := []api.Table{bare(peer(1), peer(2)), bare(at(2, 5), peer(1))}
	three := []api.Table{bare(peer(1), peer(2)), bare(at(2, 5), peer(3)), bare(at(3, 6), peer(1))}
	for most := range 65 {
		fails(t, "round and round", two, 1, 50, most, api.ErrLimit)
		fails(t, "round and round", two, 2, 50, most, api.ErrLimit)
		fails(t, "round and round", three, 3, 50, most, api.ErrLimit)
	}
	// Where its table is asked counts, not where it was taken to be.
	ends(t, two, 1, 7, 64, peer(1), 1, 2)
	ends(t, three, 1, 9, 64, peer(3), 1, 2)
}

func TestWalkNone(t *testing.T) {
	// As it comes first, the address 2 stands at 50, and the one at 20 is not known.
	blind := bare(peer(1), peer(2))
	blind.Pred = at(2, 50)
	behind := append(chain(ring(3)), bare(peer(9)))
	behind[1] = bare(peer(2), peer(3))
	behind[1].Pred = at(3, 90)
	for _, most := range []int{0, 1, 2, 64} {
		fails(t, "none to go on to", []api.Table{blind}, 1, 30, most, api.ErrNone)
		fails(t, "none to go on to", []api.Table{blind, bare(peer(2))}, 1, 30, most, api.ErrNone)
		ends(t, []api.Table{blind}, 1, 20, most, peer(2), 1)
		if most > 0 {
			fails(t, "none to go on to from the second", behind, 1, 35, most, api.ErrNone)
		}
	}
	fails(t, "no hop left to the second", behind, 1, 35, 0, api.ErrLimit)
	ends(t, []api.Table{blind, bare(at(2, 50))}, 1, 55, 1, at(2, 50), 1, 2)
}

func TestWalkRange(t *testing.T) {
	x := chain(ring(5))
	for _, most := range []int{0, 1, 2, 3, 64} {
		one, three, last := api.ErrRange, api.ErrRange, api.ErrRange
		if most < 1 {
			one = api.ErrLimit
		}
		if most < 3 {
			three = api.ErrLimit
		}
		if most < 2 {
			last = api.ErrLimit
		}
		fails(t, "no table behind the first", x[:1], 1, 25, most, one)
		fails(t, "no table behind the third", x[:3], 1, 50, most, three)
		fails(t, "no table in the middle", append(clone(x[:2]), x[3:]...), 1, 50, most, last)
		fails(t, "no table at the front", x[1:], 5, 15, most, one)
		ends(t, x[:1], 1, 20, most, peer(2), 1)
	}
	// The farthest one ahead is the next one, though there are tables of others.
	far := clone(x)
	far[0].Fingers[159] = at(9, 45)
	fails(t, "no table of the farthest", far, 1, 50, 64, api.ErrRange)
	far[0].Fingers[159] = peer(4)
	ends(t, far, 1, 50, 64, peer(5), 1, 4)
	far[0].Fingers[159], far[0].Pred = none(), at(0, 45)
	fails(t, "no table of Pred", far, 1, 50, 64, api.ErrRange)
	ends(t, far, 1, 40, 64, peer(4), 1, 2, 3)
}

// TestWalkOrder has several errors be there at once.
func TestWalkOrder(t *testing.T) {
	blind := bare(peer(1), peer(2))
	blind.Pred = at(2, 50)
	fails(t, "ErrNone is ahead of ErrLimit and ErrRange", []api.Table{blind}, 1, 30, 0, api.ErrNone)
	fails(t, "ErrLimit is ahead of ErrRange", chain(ring(2))[:1], 1, 30, 0, api.ErrLimit)
	for _, most := range []int{-1, 65} {
		fails(t, "ErrArg is ahead of ErrNone", []api.Table{blind}, 1, 30, most, api.ErrArg)
		fails(t, "ErrArg is ahead of ErrRange", chain(ring(2))[:1], 1, 30, most, api.ErrArg)
		fails(t, "ErrArg is ahead of ErrLimit", chain(ring(2)), 1, 30, most, api.ErrArg)
		fails(t, "ErrArg, though it would be over", chain(ring(2)), 1, 20, most, api.ErrArg)
	}
	wrong := bare(peer(9))
	wrong.Pred = peer(9)
	fails(t, "a wrong table is ahead of ErrNone", []api.Table{blind, wrong}, 1, 30, 0, api.ErrArg)
	fails(t, "a wrong table is ahead of ErrLimit", append(chain(ring(2)), wrong), 1, 30, 0, api.ErrArg)
	fails(t, "a wrong table is ahead of ErrRange", append(chain(ring(2))[:1], wrong), 1, 30, 64, api.ErrArg)
	fails(t, "two of one Addr are ahead of ErrRange", append(chain(ring(2))[:1], chain(ring(2))[:1]...), 1, 30, 64, api.ErrArg)
}

func TestWalkSizes(t *testing.T) {
	for _, n := range []int{0, 1, 15, 16, 17, 18, 40} {
		for _, most := range []int{0, 1, 64} {
			l := chain(ring(n))
			if n >= 1 && n <= 16 {
				ends(t, l, n, 5, most, peer(1), n)
			} else {
				fails(t, "too many tables, or none", l, n, 5, most, api.ErrArg)
				fails(t, "too many tables, or none", l, 1, 20, most, api.ErrArg)
			}
		}
	}
	fails(t, "no table", []api.Table{}, 0, 5, 0, api.ErrArg)
	fails(t, "no table", nil, -1, 0, 64, api.ErrArg)
	fails(t, "many zero tables", make([]api.Table, 1<<12), 0, 5, 3, api.ErrArg)
}

func TestWalkMostOutside(t *testing.T) {
	for _, l := range [][]api.Table{nil, {bare(peer(1))}, chain(ring(3)), chain(ring(16))} {
		for _, most := range append([]int{65, 66, 160, 128}, sizes...) {
			for _, n := range []int64{10, 20, 35} {
				fails(t, "most is not 0 to 64", l, 1, n, most, api.ErrArg)
			}
		}
	}
}

func TestWalkFrom(t *testing.T) {
	for _, l := range [][]api.Table{{bare(peer(1))}, chain(ring(3)), chain([]api.Peer{at(0, 5), at(999, 7)})} {
		for _, from := range append([]int{4, 5, 10, 20, 998}, sizes...) {
			for _, n := range []int64{10, 20, 35} {
				fails(t, "from is no Self's Addr", l, from, n, 64, api.ErrArg)
			}
		}
	}
	edge := chain([]api.Peer{at(0, 5), at(999, 7)})
	ends(t, edge, 0, 6, 0, at(999, 7), 0)
	ends(t, edge, 999, 8, 0, at(0, 5), 999)
	ends(t, edge, 0, 8, 1, at(0, 5), 0, 999)
	// One who is known, but whose table is not there, is none to begin at.
	fails(t, "from is known, but has no table", chain(ring(3))[:1], 2, 30, 64, api.ErrArg)
}

// wrongs are tables that are not right, each in one way; their Self is the peer 4, but where that is what is wrong.
func wrongs() []api.Table {
	var l []api.Table
	wrong := func(change func(x *api.Table)) {
		for _, x := range []api.Table{bare(peer(4)), bare(peer(4), peer(5), peer(1))} {
			change(&x)
			l = append(l, x)
		}
	}
	for _, addr := range sizes {
		wrong(func(x *api.Table) { x.Self.Addr = addr })
		wrong(func(x *api.Table) { x.Pred = at(addr, 1) })
		wrong(func(x *api.Table) { x.Succ = append(x.Succ, at(addr, 1)) })
		wrong(func(x *api.Table) { x.Fingers[3] = at(addr, 1) })
	}
	for _, p := range []api.Peer{peer(4), at(4, 15), at(7, 40)} {
		wrong(func(x *api.Table) { x.Pred = p })
		wrong(func(x *api.Table) { x.Succ = append(x.Succ, p) })
		wrong(func(x *api.Table) { x.Succ = append([]api.Peer{p}, x.Succ...) })
		for _, k := range []int{0, 80, 159} {
			wrong(func(x *api.Table) { x.Fingers[k] = p })
		}
	}
	wrong(func(x *api.Table) { x.Succ = append(x.Succ, none()) })
	wrong(func(x *api.Table) { x.Succ = append(peers(5, 6), at(5, 55)) })
	wrong(func(x *api.Table) { x.Succ = peers(5, 6, 6) })
	wrong(func(x *api.Table) { x.Succ = peers(5, 6, 7, 8, 9, 10, 11, 12, 13) })
	wrong(func(x *api.Table) { x.Fingers = x.Fingers[:159] })
	wrong(func(x *api.Table) { x.Fingers = append(x.Fingers, none()) })
	wrong(func(x *api.Table) { x.Fingers = nil })
	return append(l, api.Table{}, api.Table{Self: none()})
}

// TestWalkWrongTables has one table that is not right among others, though the walk would not come to it.
func TestWalkWrongTables(t *testing.T) {
	good := chain(ring(3))
	for _, x := range wrongs() {
		for i := range 4 {
			l := slices.Insert(clone(good), i, x)
			fails(t, "a table is not right", l, 1, 20, 64, api.ErrArg)
			fails(t, "a table is not right", l, 2, 15, 64, api.ErrArg)
			fails(t, "a table is not right", l, x.Self.Addr, 45, 64, api.ErrArg)
		}
		fails(t, "the table is not right", []api.Table{x}, x.Self.Addr, 45, 64, api.ErrArg)
	}
	full := chain(ring(16))
	for i := range full {
		l := clone(full)
		l[i].Pred = l[i].Self
		fails(t, "a table is not right", l, 1, 20, 64, api.ErrArg)
	}
}

func TestWalkTwice(t *testing.T) {
	good := chain(ring(5))
	for i := range good {
		for j := range 6 {
			for _, x := range []api.Table{good[i], bare(good[i].Self), bare(api.Peer{Addr: i + 1, ID: small(77)})} {
				l := slices.Insert(clone(good), j, x)
				for from := range 7 {
					fails(t, "two Selfs of one Addr", l, from, 15, 64, api.ErrArg)
				}
			}
		}
	}
	fails(t, "two Selfs of one Addr", []api.Table{bare(peer(1)), bare(peer(1))}, 1, 15, 64, api.ErrArg)
	// Two at one place have two Addrs.
	ends(t, []api.Table{bare(peer(1), peer(3)), bare(at(2, 10), peer(3))}, 2, 30, 0, peer(3), 2)
}

// TestWalkUnsettled has tables that are right, and neither whole nor of one ring.
func TestWalkUnsettled(t *testing.T) {
	x := settle(t, ring(5), 2)
	// Who does not know the peer 2 yet takes 3 to own what 2 owns.
	x[0].Succ = peers(3, 4)
	ends(t, x, 1, 15, 64, peer(3), 1)
	ends(t, x, 5, 15, 64, peer(3), 5, 1)
	ends(t, x, 3, 15, 64, peer(3), 3, 1)
	ends(t, x, 2, 25, 64, peer(3), 2)
	// A peer that went is gone to still, by fingers, by Succ, and as Pred.
	gone := append(clone(x[:3]), x[4:]...)
	fails(t, "the peer 4 went", gone, 2, 45, 64, api.ErrRange)
	fails(t, "the peer 4 went", gone, 3, 45, 64, api.ErrRange)
	fails(t, "the peer 4 went", gone, 5, 45, 64, api.ErrRange)
	ends(t, gone, 3, 40, 64, peer(4), 3)
	// Of two at one place the one of the lesser Addr is the next one.
	y := chain(ring(4))
	y[0].Fingers[5], y[0].Fingers[6] = at(7, 30), at(3, 30)
	ends(t, append(y, bare(at(7, 30), peer(9))), 1, 35, 64, peer(4), 1, 3)
	y[0].Fingers[6] = at(8, 30)
	ends(t, append(y, bare(at(7, 30), peer(9))), 1, 35, 64, peer(9), 1, 7)
}

// TestOwnerIsFound goes through settled rings from each peer, to each place near one.
func TestOwnerIsFound(t *testing.T) {
	for i, l := range circles() {
		x := settle(t, l, i%8+1)
		if i%2 == 1 {
			slices.Reverse(x) // In which order tables stand plays no part.
		}
		for _, id := range near(l) {
			for _, p := range l {
				owned(t, l, x, p, id)
			}
		}
	}
}

// owned holds that a walk ends at the owner, with no more hops than there are other peers, that each hop but the last one at least halves how far the peer ahead of the place is, and that more hops than are needed change nothing.
func owned(t *testing.T, l []api.Peer, x []api.Table, from api.Peer, id api.ID) {
	t.Helper()
	route, e := walk.Walk(x, from.Addr, id, 64)
	own := ownerOf(l, id)
	hops := len(route.Hops) - 1
	if e != api.OK || route.End != l[own] || hops < 0 || hops > len(l)-1 {
		t.Fatalf("P13.3: in %v from %v to %x: %v, %d, want %v", l, from, id, route, e, l[own])
	}
	if want, _ := walkOf(x, from.Addr, id, 64); !sameRoute(route, want) {
		t.Errorf("P13.2: in %v from %v to %x: %v, want %v", l, from, id, route, want)
	}
	ahead := l[(own+len(l)-1)%len(l)]
	left := way(from.ID, ahead.ID)
	for i, addr := range route.Hops[1:] {
		at := slices.IndexFunc(l, func(p api.Peer) bool { return p.Addr == addr })
		next := way(l[at].ID, ahead.ID)
		if i < hops-1 && new(big.Int).Lsh(next, 1).Cmp(left) > 0 {
			t.Errorf("P13.3: in %v from %v to %x: %v does not halve the way at %d", l, from, id, route, addr)
		}
		left = next
	}
	for _, most := range []int{hops - 1, hops, 63} {
		again, e := walk.Walk(x, from.Addr, id, most)
		if most >= hops && (e != api.OK || !sameRoute(again, route)) {
			t.Errorf("P13.3: in %v from %v to %x with %d hops: %v, %d, want %v", l, from, id, most, again, e, route)
		}
		if most >= 0 && most < hops && e != api.ErrLimit {
			t.Errorf("P13.2: in %v from %v to %x with %d hops: %v, %d, want ErrLimit", l, from, id, most, again, e)
		}
	}
}

// source tells numbers that are the same each time.
type source struct{ *rand.Rand }

// id is a place of any kind: close to others, at the ring's ends, at a power of two, or any.
func (s source) id() api.ID {
	var id api.ID
	switch s.Intn(3) {
	case 0:
		s.Read(id[:])
		return id
	case 1:
		return power(small(int64(s.Intn(20))), uint(s.Intn(160)), int64(s.Intn(3)-1))
	}
	return small(int64(s.Intn(40) - 15))
}

func (s source) pick(l []api.Peer) api.Peer { return l[s.Intn(len(l))] }

// table is right, or nearly so: of peers that a row tells, and none.
func (s source) table(self api.Peer, l []api.Peer) api.Table {
	x := bare(self)
	if s.Intn(3) > 0 {
		x.Pred = s.pick(l)
	}
	for range s.Intn(4) {
		x.Succ = append(x.Succ, s.pick(l))
	}
	for range s.Intn(6) {
		x.Fingers[s.Intn(160)] = s.pick(l)
	}
	return x
}

// mend leaves out of a table what keeps it from being right, if it can.
func mend(x api.Table) api.Table {
	other := func(p api.Peer) bool {
		return isAddr(p.Addr) && p.Addr != x.Self.Addr && p.ID != x.Self.ID
	}
	if !other(x.Pred) {
		x.Pred = none()
	}
	for k, p := range x.Fingers {
		if !other(p) {
			x.Fingers[k] = none()
		}
	}
	var succ []api.Peer
	for _, p := range x.Succ {
		if other(p) && !slices.ContainsFunc(succ, func(q api.Peer) bool { return q.Addr == p.Addr }) {
			succ = append(succ, p)
		}
	}
	x.Succ = succ
	return x
}

// TestAnyTables walks through tables of all kinds, just as the document says; each way in which a walk is over comes up.
func TestAnyTables(t *testing.T) {
	s := source{rand.New(rand.NewSource(41))}
	met := map[api.Errno]int{}
	longest := 0
	for range 6000 {
		var l []api.Peer
		for i := range 2 + s.Intn(12) {
			l = append(l, api.Peer{Addr: i, ID: s.id()})
			if s.Intn(3) == 0 {
				l = append(l, api.Peer{Addr: i, ID: s.id()})
			}
		}
		var tables []api.Table
		for i := range l[len(l)-1].Addr + 1 {
			at := slices.IndexFunc(l, func(p api.Peer) bool { return p.Addr == i })
			if x := s.table(l[at], l); s.Intn(100) > 0 {
				tables = append(tables, mend(x))
			} else {
				tables = append(tables, x)
			}
		}
		if s.Intn(3) == 0 {
			at := s.Intn(len(tables))
			tables = slices.Delete(tables, at, at+1)
		}
		s.Shuffle(len(tables), func(i, j int) { tables[i], tables[j] = tables[j], tables[i] })
		for range 6 {
			id := s.id()
			if s.Intn(2) == 0 {
				id = plus(s.pick(l).ID, int64(s.Intn(3)-1))
			}
			most := s.Intn(65)
			if s.Intn(2) == 0 {
				most = s.Intn(5)
			}
			x, e := hold(t, tables, s.pick(l).Addr, id, most)
			met[e]++
			longest = max(longest, len(x.Hops))
		}
	}
	if len(met) != 5 || met[api.ErrArg] < 50 || met[api.ErrNone] < 50 || met[api.ErrLimit] < 50 || met[api.ErrRange] < 50 || met[api.OK] < 50 || longest < 5 {
		t.Errorf("the tables are too much alike: %v, with %d hops", met, longest)
	}
}

// TestAnything calls with whatever there is: nothing panics, and all is told as the document says.
func TestAnything(t *testing.T) {
	s := source{rand.New(rand.NewSource(9))}
	numbers := append([]int{0, 1, 2, 3, 7, 8, 9, 63, 64, 65, 999}, sizes...)
	number := func() int { return numbers[s.Intn(len(numbers))] }
	for range 3000 {
		l := []api.Peer{none(), {}, peer(1), peer(2), peer(3)}
		for range s.Intn(6) {
			l = append(l, api.Peer{Addr: number(), ID: s.id()})
		}
		var tables []api.Table
		for range s.Intn(19) {
			x := s.table(s.pick(l), l)
			switch s.Intn(4) {
			case 0:
				x = mend(x)
			case 1:
				x.Fingers = x.Fingers[:s.Intn(160)]
			}
			tables = append(tables, x)
		}
		settle(t, l[s.Intn(len(l)):], number())
		settle(t, l[2:2+s.Intn(4)], number())
		hold(t, tables, s.pick(l).Addr, s.pick(l).ID, number())
		hold(t, tables, number(), s.id(), s.Intn(65))
		if len(tables) > 0 {
			hold(t, tables[:1], tables[0].Self.Addr, s.pick(l).ID, s.Intn(65))
		}
	}
	long := bare(peer(1))
	long.Succ, long.Fingers = make([]api.Peer, 1<<18), make([]api.Peer, 1<<18)
	hold(t, []api.Table{long}, 1, small(5), 9)
	fails(t, "a table that is far too long", append(chain(ring(3)), long), 1, 20, 9, api.ErrArg)
}

// TestOwnMemory writes to what was told: what was handed in, and what was told beside it, stays.
func TestOwnMemory(t *testing.T) {
	l := ring(9)
	for r := 1; r <= 8; r++ {
		x, _ := walk.Settled(l, r)
		y, _ := walk.Settled(l, r)
		want, _ := settledOf(ring(9), r)
		for i := range x {
			clear(x[i].Succ[:cap(x[i].Succ)])
			clear(x[i].Fingers[:cap(x[i].Fingers)])
			want[i].Succ, want[i].Fingers = make([]api.Peer, r), make([]api.Peer, 160)
			if !same(x[:i+1], want[:i+1]) || !same(x[i+1:], want[i+1:]) {
				t.Fatalf("R2: two lists that Settled tells share memory")
			}
		}
		clear(x)
		if z, _ := settledOf(ring(9), r); !slices.Equal(l, ring(9)) || !same(y, z) {
			t.Errorf("R2: what Settled tells shares memory with what was handed in, or told ahead of it")
		}
	}
	tables := chain(l)
	x, _ := walk.Walk(tables, 1, small(45), 64)
	y, _ := walk.Walk(tables, 1, small(45), 64)
	clear(x.Hops[:cap(x.Hops)])
	if !same(tables, chain(l)) || !slices.Equal(y.Hops, []int{1, 2, 3, 4}) {
		t.Errorf("R2: what Walk tells shares memory with %v, or %v", tables, y)
	}
}

// TestBehindPartsStays hands in parts of longer lists: what stands behind them stays.
func TestBehindPartsStays(t *testing.T) {
	l := ring(12)
	settle(t, l[2:5], 8)
	settle(t, l[:3], 1)
	if !slices.Equal(l, ring(12)) {
		t.Errorf("R2: the row became %v", l)
	}
	tables := chain(l)
	for i := range tables {
		tables[i].Succ = append(tables[i].Succ, peers(13, 14)...)[:1]
		tables[i].Fingers = append(tables[i].Fingers, peers(13, 14)...)[:160]
	}
	kept := clone(tables)
	hold(t, tables[2:5], 3, small(50), 64)
	hold(t, tables[2:5], 3, small(100), 64)
	for i := range tables {
		if !slices.Equal(tables[i].Succ[1:3], peers(13, 14)) || !slices.Equal(tables[i].Fingers[160:162], peers(13, 14)) {
			t.Errorf("R2: what stands behind the lists of %v is another one", tables[i])
		}
	}
	if !same(tables, kept) {
		t.Errorf("R2: the tables became %v", tables)
	}
}

package table_test

import (
	"math"
	"math/big"
	"math/rand"
	"slices"
	"testing"

	"espalier/api"
	"espalier/circle"
	"espalier/table"
)

// around is two to the power of 160: what the ring's sums are taken by.
var around = new(big.Int).Lsh(big.NewInt(1), 160)

// sizes are numbers that are no address, no finger, and no number of copies.
var sizes = []int{-1, -2, -160, 1000, 1001, 1 << 16, math.MinInt, math.MinInt + 1, math.MaxInt, math.MaxInt - 1, math.MinInt32, math.MaxInt32, 1 << 32, 1<<32 + 1, 1<<32 + 999, -1 << 32, -1<<32 + 1, 1 << 62, 1<<62 + 1}

func number(id api.ID) *big.Int { return new(big.Int).SetBytes(id[:]) }

func place(n *big.Int) api.ID {
	var id api.ID
	new(big.Int).Mod(n, around).FillBytes(id[:])
	return id
}

// small is a place; below 0 it stands at the ring's end.
func small(n int64) api.ID { return place(big.NewInt(n)) }

func plus(id api.ID, n int64) api.ID {
	return place(new(big.Int).Add(number(id), big.NewInt(n)))
}

// power is two to the power of k, and n more, clockwise from a place.
func power(from api.ID, k uint, n int64) api.ID {
	step := new(big.Int).Lsh(big.NewInt(1), k)
	return plus(place(step.Add(step, number(from))), n)
}

func at(addr int, n int64) api.Peer { return api.Peer{Addr: addr, ID: small(n)} }

func none() api.Peer { return api.Peer{Addr: -1} }

// peer is one of those in whose ring the address n stands at ten times n.
func peer(n int) api.Peer { return at(n, int64(10*n)) }

func peers(ns ...int) []api.Peer {
	var l []api.Peer
	for _, n := range ns {
		l = append(l, peer(n))
	}
	return l
}

// bare is a table of which nothing is known but Self.
func bare(self api.Peer) api.Table {
	x := api.Table{Self: self, Pred: none()}
	for range 160 {
		x.Fingers = append(x.Fingers, none())
	}
	return x
}

// example is right: the table of 10 in a ring of 10, 20, 30, 40 and 50.
func example() api.Table {
	x := bare(peer(1))
	x.Pred, x.Succ = peer(5), peers(2, 3, 4)
	for k, p := range peers(2, 2, 2, 2, 3, 5) {
		x.Fingers[k] = p
	}
	return x
}

func clone(x api.Table) api.Table {
	x.Succ, x.Fingers = slices.Clone(x.Succ), slices.Clone(x.Fingers)
	return x
}

func same(x, y api.Table) bool {
	return x.Self == y.Self && x.Pred == y.Pred && slices.Equal(x.Succ, y.Succ) && slices.Equal(x.Fingers, y.Fingers)
}

func nothing(x api.Table) bool {
	return x.Self == api.Peer{} && x.Pred == api.Peer{} && len(x.Succ) == 0 && len(x.Fingers) == 0
}

// From here to doneOf stands what the document's words say, said apart from the package.

// way is how far one place is clockwise from another.
func way(from, to api.ID) *big.Int {
	d := new(big.Int).Sub(number(to), number(from))
	return d.Mod(d, around)
}

func open(a, x, b api.ID) bool {
	if a == b {
		return x != a
	}
	return way(a, x).Sign() > 0 && way(a, x).Cmp(way(a, b)) < 0
}

func half(a, x, b api.ID) bool { return open(a, x, b) || x == b }

func isAddr(addr int) bool { return addr >= 0 && addr <= 999 }

func isOther(x api.Table, p api.Peer) bool {
	return isAddr(p.Addr) && p.Addr != x.Self.Addr && p.ID != x.Self.ID
}

func isRight(x api.Table) bool {
	addrs := map[int]int{}
	right := isAddr(x.Self.Addr) && len(x.Succ) <= 8 && len(x.Fingers) == 160
	for _, p := range x.Succ {
		addrs[p.Addr]++
		right = right && isOther(x, p)
	}
	for _, p := range append([]api.Peer{x.Pred}, x.Fingers...) {
		right = right && (p == none() || isOther(x, p))
	}
	return right && len(addrs) == len(x.Succ)
}

func firstOf(x api.Table) api.Peer {
	return append(slices.Clone(x.Succ), x.Self)[0]
}

func closerOf(x api.Table, p api.Peer) bool {
	return isOther(x, p) && open(x.Self.ID, p.ID, firstOf(x).ID)
}

func adoptOf(x api.Table, first api.Peer, rest []api.Peer, r int) (api.Table, api.Errno) {
	if !isRight(x) || !isOther(x, first) || r < 1 || r > 8 {
		return api.Table{}, api.ErrArg
	}
	x = clone(x)
	all := []api.Peer{first}
	for i := 0; i < len(rest) && isOther(x, rest[i]); i++ {
		there := 0
		for _, p := range all {
			if p.Addr == rest[i].Addr {
				there++
			}
		}
		if there == 0 {
			all = append(all, rest[i])
		}
	}
	x.Succ = all[:min(r, len(all))]
	return x, api.OK
}

func learnOf(x api.Table, p api.Peer) api.Table {
	x = clone(x)
	if isRight(x) && isOther(x, p) && (x.Pred.Addr == -1 || open(x.Pred.ID, p.ID, x.Self.ID)) {
		x.Pred = p
	}
	return x
}

func pointOf(x api.Table, k int, p api.Peer) (api.Table, int, api.Errno) {
	if !isRight(x) || k < 0 || k > 159 || !isOther(x, p) && p != x.Self {
		return api.Table{}, 0, api.ErrArg
	}
	x = clone(x)
	held := p
	if p == x.Self {
		held = none()
	}
	x.Fingers[k] = held
	for k++; k < 160 && half(x.Self.ID, power(x.Self.ID, uint(k), 0), p.ID); k++ {
		x.Fingers[k] = held
	}
	if k == 160 {
		k = 0
	}
	return x, k, api.OK
}

func forgetOf(x api.Table, addr int) api.Table {
	gone := func(p api.Peer) api.Peer {
		if p.Addr == addr {
			return none()
		}
		return p
	}
	y := api.Table{Self: x.Self, Pred: gone(x.Pred)}
	for _, p := range x.Succ {
		if p.Addr != addr {
			y.Succ = append(y.Succ, p)
		}
	}
	for _, p := range x.Fingers {
		y.Fingers = append(y.Fingers, gone(p))
	}
	return y
}

func knownOf(x api.Table) []api.Peer {
	firsts := map[int]api.Peer{}
	var addrs []int
	for _, p := range slices.Concat([]api.Peer{x.Pred}, x.Succ, x.Fingers) {
		if _, has := firsts[p.Addr]; !has && p.Addr >= 0 && p.Addr != x.Self.Addr {
			firsts[p.Addr] = p
			addrs = append(addrs, p.Addr)
		}
	}
	slices.Sort(addrs)
	var l []api.Peer
	for _, addr := range addrs {
		l = append(l, firsts[addr])
	}
	return l
}

func nearestOf(x api.Table, id api.ID, avoid []int) (api.Peer, bool) {
	best, far := none(), new(big.Int)
	for _, p := range knownOf(x) {
		if d := way(x.Self.ID, p.ID); !slices.Contains(avoid, p.Addr) && open(x.Self.ID, p.ID, id) && d.Cmp(far) > 0 {
			best, far = p, d
		}
	}
	return best, far.Sign() > 0
}

func doneOf(x api.Table, id api.ID) (api.Peer, bool) {
	return firstOf(x), half(x.Self.ID, id, firstOf(x).ID)
}

// holdWhole asks what is asked of a table alone.
func holdWhole(t *testing.T, x api.Table) {
	t.Helper()
	if want := isRight(x); table.Is(x) != want {
		t.Errorf("P12.1: Is(%v): %t", x, !want)
	}
	if p := table.First(x); p != firstOf(x) {
		t.Errorf("P12.1: First(%v): %v", x, p)
	}
	if l := table.Known(x); !slices.Equal(l, knownOf(x)) {
		t.Errorf("P12.4: Known(%v): %v, want %v", x, l, knownOf(x))
	}
}

func holdPeer(t *testing.T, x api.Table, p api.Peer) {
	t.Helper()
	if want := closerOf(x, p); table.Closer(x, p) != want {
		t.Errorf("P12.1: Closer(%v, %v): %t", x, p, !want)
	}
	if y, want := table.Learn(x, p), learnOf(x, p); !same(y, want) {
		t.Errorf("P12.2: Learn(%v, %v): %v, want %v", x, p, y, want)
	}
	if y, want := table.Forget(x, p.Addr), forgetOf(x, p.Addr); !same(y, want) {
		t.Errorf("P12.4: Forget(%v, %d): %v, want %v", x, p.Addr, y, want)
	}
}

func holdAdopt(t *testing.T, x api.Table, first api.Peer, rest []api.Peer, r int) api.Table {
	t.Helper()
	y, e := table.Adopt(x, first, rest, r)
	if want, code := adoptOf(x, first, rest, r); !same(y, want) || e != code {
		t.Errorf("P12.2: Adopt(%v, %v, %v, %d): %v, %d, want %v, %d", x, first, rest, r, y, e, want, code)
	}
	return y
}

func holdPoint(t *testing.T, x api.Table, k int, p api.Peer) (api.Table, int) {
	t.Helper()
	y, next, e := table.Point(x, k, p)
	if want, last, code := pointOf(x, k, p); !same(y, want) || next != last || e != code {
		t.Errorf("P12.3: Point(%v, %d, %v): %v, %d, %d, want %v, %d, %d", x, k, p, y, next, e, want, last, code)
	}
	return y, next
}

func holdPlace(t *testing.T, x api.Table, id api.ID, avoid []int) {
	t.Helper()
	p, ok := table.Nearest(x, id, avoid)
	if want, has := nearestOf(x, id, avoid); p != want || ok != has {
		t.Errorf("P12.4: Nearest(%v, %x, %v): %v, %t, want %v, %t", x, id, avoid, p, ok, want, has)
	}
	p, ok = table.Done(x, id)
	if want, done := doneOf(x, id); p != want || ok != done {
		t.Errorf("P12.4: Done(%v, %x): %v, %t, want %v, %t", x, id, p, ok, want, done)
	}
}

// holdAll asks all that can be asked, of each of some peers, and of the places near them; neither the table nor a list that is handed in is another one behind that.
func holdAll(t *testing.T, x api.Table, l []api.Peer) {
	t.Helper()
	kept, handed, avoid := clone(x), slices.Clone(l), []int{3, -1, 4}
	holdWhole(t, x)
	for i, p := range l {
		holdPeer(t, x, p)
		for _, r := range []int{0, 1, 2, 3, 8, 9} {
			holdAdopt(t, x, p, l[i:], r)
			holdAdopt(t, x, p, l[:i], r)
		}
		for _, k := range []int{-1, 0, 3, 4, 5, 100, 158, 159, 160} {
			holdPoint(t, x, k, p)
		}
		for n := range int64(3) {
			holdPlace(t, x, plus(p.ID, n-1), nil)
			holdPlace(t, x, plus(p.ID, n-1), avoid)
		}
	}
	if !same(x, kept) || !slices.Equal(l, handed) || !slices.Equal(avoid, []int{3, -1, 4}) {
		t.Errorf("R2: what was handed in became %v, %v, %v", x, l, avoid)
	}
}

// mixed are peers of all kinds, as the table of the address 1 at 10 sees them.
func mixed() []api.Peer {
	l := append(peers(2, 3, 4, 5, 6, 1), none(), api.Peer{}, at(1, 15), at(7, 10), at(1, 10), at(2, 35), at(8, 30))
	l = append(l, at(0, 5), at(999, -1), at(1000, 25), at(-1, 25), at(-2, 0), at(-2, 25))
	l = append(l, api.Peer{Addr: 9, ID: power(small(10), 159, 0)}, api.Peer{Addr: 10, ID: power(small(10), 159, -1)}, at(11, 9), at(12, 11))
	for _, addr := range sizes {
		l = append(l, at(addr, 25))
	}
	return l
}

func TestNew(t *testing.T) {
	for _, addr := range []int{0, 1, 500, 998, 999} {
		for _, n := range []int64{0, 10, -1} {
			x, e := table.New(at(addr, n))
			if e != api.OK || !same(x, bare(at(addr, n))) || !table.Is(x) {
				t.Errorf("P12.1: New of %d at %d: %v, %d", addr, n, x, e)
			}
		}
	}
	for _, addr := range sizes {
		for _, n := range []int64{0, 10} {
			if x, e := table.New(at(addr, n)); e != api.ErrArg || !nothing(x) {
				t.Errorf("P12.1: New of %d: %v, %d, want ErrArg", addr, x, e)
			}
		}
	}
}

// TestIsOneWrong has one part of a right table be another one.
func TestIsOneWrong(t *testing.T) {
	is := func(want bool, what string, change func(x *api.Table)) {
		t.Helper()
		x := example()
		change(&x)
		if table.Is(x) != want || isRight(x) != want {
			t.Errorf("P12.1: with %s Is tells %t", what, !want)
		}
	}
	is(true, "nothing changed", func(*api.Table) {})
	for _, addr := range sizes {
		is(false, "a wrong Addr of Self", func(x *api.Table) { x.Self.Addr = addr })
		is(false, "a wrong Addr of Pred", func(x *api.Table) { x.Pred = at(addr, 50) })
		is(false, "a wrong Addr in Succ", func(x *api.Table) { x.Succ[2].Addr = addr })
		is(false, "a wrong Addr of a finger", func(x *api.Table) { x.Fingers[6] = at(addr, 50) })
	}
	for _, addr := range []int{0, 7, 999} {
		is(true, "another Self", func(x *api.Table) { x.Self.Addr = addr })
		is(true, "another Pred", func(x *api.Table) { x.Pred.Addr = addr })
		is(true, "another one in Succ", func(x *api.Table) { x.Succ[2].Addr = addr })
		is(true, "another finger", func(x *api.Table) { x.Fingers[6] = at(addr, 50) })
	}
	for _, self := range []api.Peer{peer(1), at(1, 15), at(9, 10)} {
		is(false, "Self as Pred", func(x *api.Table) { x.Pred = self })
		for i := range 3 {
			is(false, "Self in Succ", func(x *api.Table) { x.Succ[i] = self })
		}
		for k := range 160 {
			is(false, "Self as a finger", func(x *api.Table) { x.Fingers[k] = self })
		}
	}
	is(true, "no Pred", func(x *api.Table) { x.Pred = none() })
	is(false, "no Pred, at 1", func(x *api.Table) { x.Pred.Addr = -1 })
	is(false, "none in Succ", func(x *api.Table) { x.Succ[1] = none() })
	is(true, "Succ empty", func(x *api.Table) { x.Succ = nil })
	is(true, "Pred in Succ", func(x *api.Table) { x.Succ[1] = x.Pred })
	is(true, "two of Succ at one place", func(x *api.Table) { x.Succ[2].ID = x.Succ[0].ID })
	for _, two := range [][2]int{{0, 1}, {0, 2}, {1, 2}, {2, 0}} {
		is(false, "one Addr twice in Succ", func(x *api.Table) { x.Succ[two[1]].Addr = x.Succ[two[0]].Addr })
		is(false, "a peer twice in Succ", func(x *api.Table) { x.Succ[two[1]] = x.Succ[two[0]] })
	}
}

// TestIsSizes is of Succ and Fingers of any length.
func TestIsSizes(t *testing.T) {
	for n := range 12 {
		x := example()
		x.Succ = peers(2, 3, 4, 5, 6, 7, 8, 9, 10, 11, 12)[:n]
		if table.Is(x) != (n <= 8) {
			t.Errorf("P12.1: of %d in Succ Is tells %t", n, n > 8)
		}
	}
	for _, n := range []int{0, 1, 8, 158, 159, 160, 161, 320, 1 << 20} {
		x := example()
		x.Fingers = slices.Repeat([]api.Peer{none()}, n)
		if table.Is(x) != (n == 160) {
			t.Errorf("P12.1: of %d fingers Is tells %t", n, n != 160)
		}
		if n > 0 && n <= 160 {
			x = example()
			x.Fingers[n-1] = at(-1, 1)
			if table.Is(x) {
				t.Errorf("P12.1: the finger %d is neither None() nor another one, and Is tells true", n-1)
			}
		}
	}
	if table.Is(api.Table{}) {
		t.Error("P12.1: Is of a zero table")
	}
}

func TestFirst(t *testing.T) {
	x := example()
	if p := table.First(x); p != peer(2) {
		t.Errorf("P12.1: First: %v", p)
	}
	for _, p := range mixed() {
		x.Self, x.Succ = p, nil
		if q := table.First(x); q != p {
			t.Errorf("P12.1: First of none behind %v: %v", p, q)
		}
		x.Self, x.Succ = peer(1), []api.Peer{p, peer(3)}
		if q := table.First(x); q != p {
			t.Errorf("P12.1: First of %v: %v", p, q)
		}
	}
}

func TestCloser(t *testing.T) {
	x, alone := example(), bare(peer(1))
	for _, c := range []struct {
		p           api.Peer
		first, ring bool
	}{
		{peer(1), false, false}, {none(), false, false}, {peer(2), false, true}, {at(9, 20), false, true},
		{at(9, 15), true, true}, {at(9, 11), true, true}, {at(9, 19), true, true}, {at(2, 15), true, true},
		{at(9, 21), false, true}, {at(9, 9), false, true}, {at(9, 10), false, false}, {at(1, 15), false, false},
		{at(9, -1), false, true}, {at(-1, 15), false, false}, {at(1000, 15), false, false}, {at(0, 15), true, true}, {at(999, 15), true, true},
	} {
		if got := table.Closer(x, c.p); got != c.first {
			t.Errorf("P12.1: Closer of %v ahead of 20: %t", c.p, got)
		}
		if got := table.Closer(alone, c.p); got != c.ring {
			t.Errorf("P12.1: Closer of %v, alone: %t", c.p, got)
		}
	}
}

func TestAdopt(t *testing.T) {
	x := example()
	seven := peers(3, 4, 5, 6, 7, 8, 9)
	for _, c := range []struct {
		rest []api.Peer
		r    int
		want []api.Peer
	}{
		{nil, 1, peers(2)}, {nil, 8, peers(2)}, {seven, 1, peers(2)}, {seven, 2, peers(2, 3)}, {seven, 7, peers(2, 3, 4, 5, 6, 7, 8)},
		{seven, 8, peers(2, 3, 4, 5, 6, 7, 8, 9)}, {append(seven, peer(10)), 8, peers(2, 3, 4, 5, 6, 7, 8, 9)},
		{peers(2, 2, 3, 2, 3, 4, 4), 8, peers(2, 3, 4)}, {peers(2, 3, 4), 2, peers(2, 3)}, {append(peers(3), at(2, 35), at(3, 36), peer(4)), 8, peers(2, 3, 4)},
		{peers(1, 3, 4), 8, peers(2)}, {peers(3, 1, 4), 8, peers(2, 3)}, {peers(3, 4, 1), 8, peers(2, 3, 4)},
		{append(peers(3), none(), peer(4)), 8, peers(2, 3)}, {append(peers(3), at(1, 35), peer(4)), 8, peers(2, 3)},
		{append(peers(3), at(7, 10), peer(4)), 8, peers(2, 3)}, {append(peers(3), at(1000, 35), peer(4)), 8, peers(2, 3)},
		{append(peers(3), at(7, 30), peer(4)), 8, append(peers(2, 3), at(7, 30), peer(4))}, {peers(5, 4, 3), 8, peers(2, 5, 4, 3)},
	} {
		y := holdAdopt(t, x, peer(2), c.rest, c.r)
		if !slices.Equal(y.Succ, c.want) || !table.Is(y) {
			t.Errorf("P12.2: Adopt of %v behind, %d at most: %v, want %v", c.rest, c.r, y.Succ, c.want)
		}
	}
	y, e := table.Adopt(x, peer(9), nil, 3)
	want := example()
	want.Succ = peers(9)
	if e != api.OK || !same(y, want) {
		t.Errorf("P12.2: Adopt changed more than Succ: %v, %d", y, e)
	}
}

func TestAdoptWrong(t *testing.T) {
	refused := func(x api.Table, first api.Peer, r int) {
		t.Helper()
		if y, e := table.Adopt(x, first, peers(3, 4), r); e != api.ErrArg || !nothing(y) {
			t.Errorf("P12.2: Adopt of %v, %d at most: %v, %d, want ErrArg", first, r, y, e)
		}
	}
	for _, r := range append([]int{0, 9, 10, 160}, sizes...) {
		refused(example(), peer(2), r)
	}
	for _, p := range append([]api.Peer{peer(1), at(1, 15), at(7, 10), none()}, at(1000, 15), at(-1, 15)) {
		refused(example(), p, 2)
	}
	for _, x := range wrongs() {
		refused(x, peer(6), 2)
	}
}

func TestLearn(t *testing.T) {
	x, bareOne := example(), bare(peer(1))
	for _, c := range []struct {
		p           api.Peer
		known, free bool
	}{
		{at(9, 55), true, true}, {at(9, 5), true, true}, {at(9, -1), true, true}, {at(9, 51), true, true}, {at(9, 9), true, true}, {at(5, 55), true, true}, {at(2, 55), true, true},
		{peer(5), false, true}, {at(9, 50), false, true}, {at(9, 49), false, true}, {at(9, 15), false, true}, {at(9, 11), false, true}, {peer(2), false, true},
		{peer(1), false, false}, {at(1, 55), false, false}, {at(9, 10), false, false}, {none(), false, false}, {at(-1, 55), false, false},
		{at(1000, 55), false, false}, {at(0, 55), true, true}, {at(999, 55), true, true},
	} {
		for _, from := range []api.Table{x, bareOne} {
			want := clone(from)
			if from.Pred == none() && c.free || from.Pred != none() && c.known {
				want.Pred = c.p
			}
			if y := table.Learn(from, c.p); !same(y, want) {
				t.Errorf("P12.2: Learn of %v behind %v: %v, want %v", c.p, from.Pred, y.Pred, want.Pred)
			}
		}
	}
	for _, wrong := range wrongs() {
		for _, p := range []api.Peer{at(9, 55), peer(6), peer(1), none()} {
			if y := table.Learn(wrong, p); !same(y, wrong) {
				t.Errorf("P12.2: Learn(%v, %v): %v", wrong, p, y)
			}
		}
	}
}

// wrongs are tables that are not right, each in one way.
func wrongs() []api.Table {
	var l []api.Table
	wrong := func(change func(x *api.Table)) {
		for _, x := range []api.Table{example(), bare(peer(1))} {
			change(&x)
			l = append(l, x)
		}
	}
	wrong(func(x *api.Table) { x.Self.Addr = -1 })
	wrong(func(x *api.Table) { x.Self.Addr = 1000 })
	wrong(func(x *api.Table) { x.Pred = at(-1, 1) })
	wrong(func(x *api.Table) { x.Pred = peer(1) })
	wrong(func(x *api.Table) { x.Pred = at(1000, 50) })
	wrong(func(x *api.Table) { x.Succ = append(x.Succ, at(1, 15)) })
	wrong(func(x *api.Table) { x.Succ = append(x.Succ, at(7, 10)) })
	wrong(func(x *api.Table) { x.Succ = append(peers(2, 6), at(2, 15)) })
	wrong(func(x *api.Table) { x.Succ = []api.Peer{none()} })
	wrong(func(x *api.Table) { x.Succ = peers(2, 3, 4, 5, 6, 7, 8, 9, 10) })
	wrong(func(x *api.Table) { x.Fingers = x.Fingers[:159] })
	wrong(func(x *api.Table) { x.Fingers = append(x.Fingers, none()) })
	wrong(func(x *api.Table) { x.Fingers = nil })
	wrong(func(x *api.Table) { x.Fingers[159] = at(-1, 1) })
	wrong(func(x *api.Table) { x.Fingers[7] = peer(1) })
	wrong(func(x *api.Table) { x.Fingers[0] = at(-2, 0) })
	return append(l, api.Table{}, api.Table{Self: none()}, api.Table{Self: none(), Succ: []api.Peer{none()}, Fingers: []api.Peer{{}, none(), at(-1, 3)}})
}

// TestPoint points from 10: the fingers 0 and on begin at 11, 12, 14, 18, 26, 42, 74.
func TestPoint(t *testing.T) {
	x := bare(peer(1))
	for _, c := range []struct {
		k    int
		p    api.Peer
		next int
	}{
		{0, peer(2), 4}, {0, at(9, 11), 1}, {0, at(9, 12), 2}, {0, at(9, 13), 2}, {0, at(9, 17), 3}, {0, at(9, 18), 4}, {0, at(9, 25), 4}, {0, at(9, 26), 5},
		{3, peer(2), 4}, {4, peer(3), 5}, {4, peer(5), 6}, {5, peer(5), 6}, {0, at(9, 9), 0}, {158, at(9, 9), 0}, {159, at(9, 9), 0}, {0, at(9, 0), 0},
		{7, api.Peer{Addr: 9, ID: power(small(10), 159, 0)}, 0}, {7, api.Peer{Addr: 9, ID: power(small(10), 159, -1)}, 159},
		{158, api.Peer{Addr: 9, ID: power(small(10), 159, -1)}, 159}, {159, api.Peer{Addr: 9, ID: power(small(10), 159, 5)}, 0},
		{0, at(0, 20), 4}, {0, at(999, 20), 4},
	} {
		want := clone(x)
		for k := c.k; k < 160 && (k < c.next || c.next == 0); k++ {
			want.Fingers[k] = c.p
		}
		if y, next, e := table.Point(x, c.k, c.p); e != api.OK || next != c.next || !same(y, want) {
			t.Errorf("P12.3: Point of %d to %v: %v, %d, %d, want %d", c.k, c.p, y.Fingers, next, e, c.next)
		}
	}
	y := example()
	for k := range 160 {
		want := example()
		copy(want.Fingers[k:], slices.Repeat([]api.Peer{none()}, 160))
		if z, next, e := table.Point(y, k, peer(1)); e != api.OK || next != 0 || !same(z, want) {
			t.Errorf("P12.3: Point of %d to Self: %v, %d, %d", k, z.Fingers, next, e)
		}
	}
}

// TestPointShort points a finger to a peer that is not as far as its place: that finger points to it, and none behind it.
func TestPointShort(t *testing.T) {
	x := example()
	for k := 4; k < 160; k++ {
		want := example()
		want.Fingers[k] = at(9, 15)
		if y, next, e := table.Point(x, k, at(9, 15)); e != api.OK || next != (k+1)%160 || !same(y, want) {
			t.Errorf("P12.3: Point of %d to 15: %v, %d, %d", k, y.Fingers, next, e)
		}
	}
}

// TestPointEach has a peer just at the place of each finger, one below it and one above it, from Selfs whose fingers go round the ring, too.
func TestPointEach(t *testing.T) {
	for _, self := range []api.ID{small(0), small(10), small(-1), small(-10), power(small(0), 159, 0), power(small(0), 100, -1)} {
		x := bare(api.Peer{Addr: 1, ID: self})
		for k := range uint(160) {
			for n := range int64(3) {
				p := api.Peer{Addr: 2, ID: power(self, k, n-1)}
				for _, from := range []int{0, int(k), 159} {
					holdPoint(t, x, from, p)
				}
				next := int(k+1) % 160
				if n == 0 {
					next = int(k)
				}
				if _, got, e := table.Point(x, 0, p); k > 1 && (got != next || e != api.OK) {
					t.Errorf("P12.3: from %x Point to %x: %d, %d, want %d", self, p.ID, got, e, next)
				}
			}
		}
	}
}

func TestPointWrong(t *testing.T) {
	refused := func(x api.Table, k int, p api.Peer) {
		t.Helper()
		if y, next, e := table.Point(x, k, p); e != api.ErrArg || next != 0 || !nothing(y) {
			t.Errorf("P12.3: Point of %d to %v: %v, %d, %d, want ErrArg", k, p, y, next, e)
		}
	}
	for _, k := range append([]int{160, 161, 320}, sizes...) {
		refused(example(), k, peer(2))
		refused(example(), k, peer(1))
	}
	for _, p := range []api.Peer{none(), at(1, 15), at(7, 10), at(-1, 10), at(-1, 15), at(1000, 15), at(1000, 10)} {
		for _, k := range []int{0, 4, 159} {
			refused(example(), k, p)
		}
	}
	for _, x := range wrongs() {
		for _, k := range []int{0, 159} {
			refused(x, k, peer(6))
			refused(x, k, x.Self)
		}
	}
}

func TestForget(t *testing.T) {
	forget := func(x api.Table, addr int, change func(x *api.Table)) {
		t.Helper()
		want := clone(x)
		change(&want)
		if y := table.Forget(x, addr); !same(y, want) || table.Is(x) && !table.Is(y) {
			t.Errorf("P12.4: Forget(%v, %d): %v", x, addr, y)
		}
	}
	clearFingers := func(x *api.Table, ks ...int) {
		for _, k := range ks {
			x.Fingers[k] = none()
		}
	}
	x := example()
	forget(x, 5, func(x *api.Table) { x.Pred = none(); clearFingers(x, 5) })
	forget(x, 2, func(x *api.Table) { x.Succ = peers(3, 4); clearFingers(x, 0, 1, 2, 3) })
	forget(x, 3, func(x *api.Table) { x.Succ = peers(2, 4); clearFingers(x, 4) })
	forget(x, 4, func(x *api.Table) { x.Succ = peers(2, 3) })
	for _, addr := range append([]int{1, 0, 6, 10, 999}, sizes...) {
		forget(x, addr, func(*api.Table) {})
	}
	x.Pred, x.Fingers[159], x.Succ = at(2, 55), at(2, -5), peers(4, 3, 2)
	forget(x, 2, func(x *api.Table) { x.Pred, x.Succ = none(), peers(4, 3); clearFingers(x, 0, 1, 2, 3, 159) })
	x.Succ = peers(2)
	forget(x, 2, func(x *api.Table) { x.Pred, x.Succ = none(), nil; clearFingers(x, 0, 1, 2, 3, 159) })

	wrong := api.Table{Self: peer(1), Pred: peer(1), Succ: peers(2, 1, 2, 1), Fingers: append(peers(1, 2, 1), at(-1, 5))}
	forget(wrong, 1, func(x *api.Table) { x.Pred, x.Succ = none(), peers(2, 2); clearFingers(x, 0, 2) })
	forget(wrong, 2, func(x *api.Table) { x.Succ = peers(1, 1); clearFingers(x, 1) })
	forget(wrong, -1, func(x *api.Table) { clearFingers(x, 3) })
	wrong.Pred, wrong.Succ = at(-1, 3), append(peers(2), none(), at(-1, 7))
	forget(wrong, -1, func(x *api.Table) { x.Pred, x.Succ = none(), peers(2); clearFingers(x, 3) })
}

func TestKnown(t *testing.T) {
	known := func(x api.Table, want ...api.Peer) {
		t.Helper()
		if l := table.Known(x); !slices.Equal(l, want) {
			t.Errorf("P12.4: Known(%v): %v, want %v", x, l, want)
		}
	}
	known(api.Table{})
	known(bare(peer(1)))
	known(example(), peers(2, 3, 4, 5)...)
	known(table.Forget(example(), 3), peers(2, 4, 5)...)

	x := bare(peer(1))
	x.Fingers[159], x.Fingers[0] = at(999, 5), at(0, 6)
	known(x, at(0, 6), at(999, 5))
	x.Fingers[1], x.Fingers[158] = at(999, 7), at(0, 8)
	known(x, at(0, 6), at(999, 7))
	x.Succ = []api.Peer{at(7, 10), at(999, 1), at(999, 2)}
	known(x, at(0, 6), at(7, 10), at(999, 1))
	x.Pred = at(999, 4)
	known(x, at(0, 6), at(7, 10), at(999, 4))

	wrong := api.Table{Self: peer(1), Pred: at(1, 90), Succ: []api.Peer{at(math.MaxInt, 1), at(1000, 2), at(-2, 3), at(math.MinInt, 4)}, Fingers: []api.Peer{at(1, 5), none(), at(-1, 6), at(7, 10)}}
	known(wrong, at(7, 10), at(1000, 2), at(math.MaxInt, 1))
	wrong.Self = at(1000, 5)
	known(wrong, at(1, 90), at(7, 10), at(math.MaxInt, 1))
	wrong.Self = none()
	known(wrong, at(1, 90), at(7, 10), at(1000, 2), at(math.MaxInt, 1))
}

func TestNearest(t *testing.T) {
	nearest := func(x api.Table, n int64, want api.Peer, avoid ...int) {
		t.Helper()
		if p, ok := table.Nearest(x, small(n), avoid); p != want || ok != (want.Addr != -1) {
			t.Errorf("P12.4: Nearest of %d, without %v: %v, %t, want %v", n, avoid, p, ok, want)
		}
	}
	x := example()
	for n, want := range map[int64]api.Peer{10: peer(5), 9: peer(5), -1: peer(5), 51: peer(5), 50: peer(4), 41: peer(4), 40: peer(3), 31: peer(3), 30: peer(2), 21: peer(2), 20: none(), 11: none()} {
		nearest(x, n, want)
	}
	nearest(x, 45, peer(3), 4)
	nearest(x, 45, peer(2), 3, 4)
	nearest(x, 45, none(), 4, 2, 3)
	nearest(x, 45, peer(4), 5, 1, -1, 1000)
	nearest(x, 45, peer(2), 4, 4, 3, 3, 7)
	nearest(x, 10, none(), 2, 3, 4, 5)
	nearest(bare(peer(1)), 10, none())
	nearest(bare(peer(1)), 45, none())

	x.Succ = []api.Peer{at(8, 40), at(3, 40), at(7, 40)}
	x.Fingers = append(slices.Repeat([]api.Peer{none()}, 159), at(6, 40))
	nearest(x, 45, at(3, 40))
	nearest(x, 45, at(6, 40), 3)
	nearest(x, 45, at(7, 40), 3, 6)
	nearest(x, 45, at(8, 40), 3, 6, 7)
	nearest(x, 40, none())
	nearest(x, 10, peer(5))

	// As it comes first, the address 5 stands at 50, not at 30; a peer at Self's place is never between.
	x.Fingers[3], x.Fingers[4] = at(5, 30), at(9, 10)
	nearest(x, 35, none())
	nearest(x, 10, peer(5))
	nearest(x, 10, at(3, 40), 5)
	nearest(api.Table{Self: none(), Fingers: []api.Peer{at(-3, 5), at(1000, 4)}}, 9, at(1000, 4))
	nearest(api.Table{}, 9, none())
}

func TestDone(t *testing.T) {
	x, alone := example(), bare(peer(1))
	for _, n := range []int64{9, 10, 11, 15, 19, 20, 21, 30, 50, 0, -1} {
		p, done := table.Done(x, small(n))
		if p != peer(2) || done != (n > 10 && n <= 20) {
			t.Errorf("P12.4: Done of %d: %v, %t", n, p, done)
		}
		if p, done = table.Done(alone, small(n)); p != peer(1) || !done {
			t.Errorf("P12.4: Done of %d, alone: %v, %t", n, p, done)
		}
		x.Self = at(3, 30)
		if p, done = table.Done(x, small(n)); p != peer(2) || done != (n > 30 || n <= 20) {
			t.Errorf("P12.4: Done of %d, round the ring: %v, %t", n, p, done)
		}
		x.Self = peer(1)
	}
	wrong := api.Table{Self: at(-7, 10), Succ: []api.Peer{at(2000, 12)}}
	if p, done := table.Done(wrong, small(12)); p != at(2000, 12) || !done {
		t.Errorf("P12.4: Done of a wrong table: %v, %t", p, done)
	}
}

// TestWrongTables asks all that can be asked of tables that are not right, and of some that are.
func TestWrongTables(t *testing.T) {
	for _, x := range append(wrongs(), example(), bare(peer(1)), bare(at(0, 0)), bare(at(999, -1))) {
		holdAll(t, x, mixed())
	}
}

// source tells numbers that are the same each time.
type source struct{ *rand.Rand }

func (s source) pick(l []api.Peer) api.Peer { return l[s.Intn(len(l))] }

func (s source) some(l []api.Peer, most int) []api.Peer {
	var list []api.Peer
	for range s.Intn(most + 1) {
		list = append(list, s.pick(l))
	}
	return list
}

func (s source) addrs(l []api.Peer) []int {
	var list []int
	for _, p := range s.some(l, 6) {
		list = append(list, p.Addr)
	}
	return list
}

// ring are peers at places of all kinds: close to one another, at the ring's ends, and any; some at one place, some with one Addr.
func (s source) ring(size int) []api.Peer {
	var l []api.Peer
	for len(l) < size {
		p := api.Peer{Addr: s.Intn(12), ID: small(int64(s.Intn(40) - 15))}
		switch s.Intn(3) {
		case 0:
			p.ID = power(small(int64(s.Intn(20))), uint(s.Intn(160)), int64(s.Intn(3)-1))
		case 1:
			s.Read(p.ID[:])
		}
		l = append(l, p)
	}
	return l
}

// TestLongRows makes many calls on a right table, one behind the other: it stays right, and each is told what the document says.
func TestLongRows(t *testing.T) {
	for seed := range int64(60) {
		s := source{rand.New(rand.NewSource(seed))}
		l := s.ring(14)
		x, e := table.New(l[0])
		if e != api.OK {
			t.Fatalf("P12.1: New(%v): %d", l[0], e)
		}
		l = append(l, none(), at(1000, 7), at(-1, 7))
		for k := range 120 {
			p := s.pick(l)
			holdPeer(t, x, p)
			switch k % 4 {
			case 0:
				if y := holdAdopt(t, x, p, s.some(l, 10), s.Intn(10)); table.Is(y) {
					x = y
				}
			case 1:
				x = table.Learn(x, p)
			case 2:
				if y, _ := holdPoint(t, x, s.Intn(162)-1, p); table.Is(y) {
					x = y
				}
			case 3:
				x = forgotten(t, x, p.Addr)
			}
			if !table.Is(x) || !isRight(x) {
				t.Fatalf("P12.5: %v is not right", x)
			}
			holdWhole(t, x)
			id, avoid := s.pick(l).ID, s.addrs(l)
			holdPlace(t, x, plus(id, int64(s.Intn(3)-1)), avoid)
			between(t, x, id, avoid)
		}
	}
}

// forgotten forgets an address: it is not known from then on, and all others are. Of one Addr there may be several peers, so addresses are counted.
func forgotten(t *testing.T, x api.Table, addr int) api.Table {
	t.Helper()
	y := table.Forget(x, addr)
	left := map[int]int{}
	for _, p := range table.Known(x) {
		left[p.Addr]++
	}
	delete(left, addr)
	known := table.Known(y)
	for _, p := range known {
		if p.Addr == addr || left[p.Addr] != 1 {
			t.Errorf("P12.5: behind Forget(%v, %d) %v is known", x, addr, p)
		}
	}
	if len(known) != len(left) {
		t.Errorf("P12.5: behind Forget(%v, %d) there are %v", x, addr, known)
	}
	return y
}

// between holds that the nearest one is nearer to the place than Self, and that none of those that are known, and may be asked, is between; and that there is none, if no such one is nearer than Self.
func between(t *testing.T, x api.Table, id api.ID, avoid []int) {
	t.Helper()
	p, ok := table.Nearest(x, id, avoid)
	left := way(x.Self.ID, id)
	if id == x.Self.ID {
		left = around
	}
	if ok {
		if d := way(p.ID, id); d.Cmp(left) >= 0 || d.Sign() == 0 || slices.Contains(avoid, p.Addr) {
			t.Errorf("P12.5: Nearest(%v, %x, %v): %v", x, id, avoid, p)
		}
		left = way(p.ID, id)
	}
	for _, q := range table.Known(x) {
		if d := way(q.ID, id); d.Sign() > 0 && d.Cmp(left) < 0 && !slices.Contains(avoid, q.Addr) {
			t.Errorf("P12.5: Nearest(%v, %x, %v): %v, and %v is between", x, id, avoid, p, q)
		}
	}
}

// TestAnything calls with whatever there is: nothing panics, and all is told as the document says.
func TestAnything(t *testing.T) {
	s := source{rand.New(rand.NewSource(9))}
	numbers := append([]int{0, 1, 2, 7, 8, 9, 10, 158, 159, 160, 161, 999}, sizes...)
	for range 4000 {
		l := s.ring(8)
		for range s.Intn(6) {
			l = append(l, api.Peer{Addr: numbers[s.Intn(len(numbers))], ID: small(int64(s.Intn(30) - 10))})
		}
		l = append(l, none(), api.Peer{})
		x := api.Table{Self: s.pick(l), Pred: s.pick(l), Succ: s.some(l, 9), Fingers: s.some(l, 4)}
		if s.Intn(3) > 0 {
			x.Fingers = append(slices.Repeat([]api.Peer{none()}, 160-len(x.Fingers)), x.Fingers...)
		}
		kept := clone(x)
		holdWhole(t, x)
		holdPeer(t, x, s.pick(l))
		holdAdopt(t, x, s.pick(l), s.some(l, 12), numbers[s.Intn(len(numbers))])
		holdPoint(t, x, numbers[s.Intn(len(numbers))], s.pick(l))
		holdPoint(t, x, s.Intn(160), x.Self)
		holdPlace(t, x, s.pick(l).ID, s.addrs(l))
		between(t, x, s.pick(l).ID, s.addrs(l))
		if !same(x, kept) {
			t.Errorf("R2: %v became %v", kept, x)
		}
	}
	long := api.Table{Self: peer(1), Pred: peer(2), Succ: make([]api.Peer, 1<<18), Fingers: make([]api.Peer, 1<<18)}
	holdWhole(t, long)
	holdPeer(t, long, api.Peer{})
	holdPlace(t, long, small(77), make([]int, 1<<18))
}

// TestToldStays hands in parts of lists, and goes on from one table in several ways: neither what was told nor what stands behind the parts is another one later.
func TestToldStays(t *testing.T) {
	x := example()
	behind := peers(6, 7, 8, 9, 2, 1)
	keptBehind := slices.Clone(behind)
	x.Succ, x.Fingers = append(x.Succ, peers(6, 7)...)[:2], append(x.Fingers, peers(6, 7)...)[:160]
	tables := []api.Table{x}
	for _, from := range []int{0, 1, 2} {
		y, _ := table.Adopt(tables[from], peer(3), behind[:2], 8)
		z, _, _ := table.Point(tables[from], 2, peer(6))
		tables = append(tables, y, z, table.Learn(tables[from], at(9, 55)), table.Forget(tables[from], 2), table.Learn(tables[from], peer(1)))
	}
	var kept []api.Table
	var known, keptKnown [][]api.Peer
	for _, y := range tables {
		kept = append(kept, api.Table{Self: y.Self, Pred: y.Pred, Succ: slices.Clone(y.Succ[:cap(y.Succ)]), Fingers: slices.Clone(y.Fingers[:cap(y.Fingers)])})
		l := table.Known(y)
		known, keptKnown = append(known, l), append(keptKnown, slices.Clone(l))
	}
	for _, y := range tables {
		holdAll(t, y, mixed())
		holdAdopt(t, y, peer(2), behind[:3], 8)
		table.Nearest(y, small(45), []int{4, 2}[:1])
	}
	for i, y := range tables {
		whole := api.Table{Self: y.Self, Pred: y.Pred, Succ: y.Succ[:cap(y.Succ)], Fingers: y.Fingers[:cap(y.Fingers)]}
		if !same(whole, kept[i]) || !slices.Equal(known[i], keptKnown[i]) {
			t.Errorf("R2: %v became %v, %v", kept[i], y, known[i])
		}
	}
	if !slices.Equal(behind, keptBehind) {
		t.Errorf("R2: what was handed in became %v", behind)
	}
}

// TestOwnMemory writes to what was told: what was handed in, and what was told beside it, stays.
func TestOwnMemory(t *testing.T) {
	scratch := func(x api.Table) {
		clear(x.Succ)
		clear(x.Fingers)
	}
	x, rest := example(), peers(3, 4, 5)
	y, _ := table.Adopt(x, peer(2), rest, 8)
	z, _, _ := table.Point(x, 2, peer(6))
	for _, told := range []api.Table{y, z, table.Learn(x, at(9, 55)), table.Learn(x, peer(1)), table.Forget(x, 2), table.Forget(x, 77)} {
		scratch(told)
	}
	clear(table.Known(x))
	wrong := example()
	wrong.Self.Addr = -1
	scratch(table.Learn(wrong, peer(6)))
	scratch(table.Forget(wrong, 2))
	fresh, _ := table.New(peer(1))
	scratch(fresh)
	fresh, _ = table.New(peer(1))
	wrong.Self.Addr = 1
	if !same(x, example()) || !same(wrong, example()) || !slices.Equal(rest, peers(3, 4, 5)) || !same(fresh, bare(peer(1))) {
		t.Errorf("R2: what was told shares memory with %v, %v, %v, %v", x, wrong, rest, fresh)
	}
	if circle.None() != none() {
		t.Errorf("P11.1: None: %v", circle.None())
	}
}

package circle_test

import (
	"bytes"
	"crypto/sha1"
	"math"
	"math/big"
	"math/rand"
	"slices"
	"strconv"
	"testing"

	"espalier/api"
	"espalier/circle"
	"espalier/ident"
)

// around is two to the power of 160: what the ring's sums are taken by.
var around = new(big.Int).Lsh(big.NewInt(1), 160)

// sizes are numbers that are no address, no place of a circle, and no number of copies.
var sizes = []int{-1, -2, -16, -17, 1000, 1001, 1 << 16, math.MinInt, math.MinInt + 1, math.MaxInt, math.MaxInt - 1, math.MinInt32, math.MaxInt32, 1 << 32, 1<<32 + 1, 1<<32 + 999, -1 << 32, -1<<32 + 1, 1 << 62, 1<<62 + 1}

func number(id api.ID) *big.Int { return new(big.Int).SetBytes(id[:]) }

func place(n *big.Int) api.ID {
	var id api.ID
	new(big.Int).Mod(n, around).FillBytes(id[:])
	return id
}

// small is a place; below 0 it stands at the ring's end.
func small(n int64) api.ID { return place(big.NewInt(n)) }

func plus(id api.ID, n int64) api.ID {
	return place(new(big.Int).Add(number(id), big.NewInt(n)))
}

// power is two to the power of k, and n more.
func power(k uint, n int64) api.ID {
	return plus(place(new(big.Int).Lsh(big.NewInt(1), k)), n)
}

// row gives peers those IDs, in that order, and Addrs that do not rise.
func row(ids ...api.ID) []api.Peer {
	var l []api.Peer
	for i, id := range ids {
		l = append(l, api.Peer{Addr: (i*389 + 7) % 1000, ID: id})
	}
	return l
}

// circleOf is the circle of peers with those IDs, in whatever order they are told; each once.
func circleOf(ids ...api.ID) []api.Peer {
	ids = slices.Clone(ids)
	slices.SortFunc(ids, func(a, b api.ID) int { return bytes.Compare(a[:], b[:]) })
	return row(slices.Compact(ids)...)
}

func smalls(ns ...int64) []api.Peer {
	var ids []api.ID
	for _, n := range ns {
		ids = append(ids, small(n))
	}
	return circleOf(ids...)
}

func example() []api.Peer {
	return []api.Peer{{Addr: 1, ID: small(10)}, {Addr: 2, ID: small(20)}, {Addr: 3, ID: small(30)}}
}

// From here to inArc stands what the document's words say, of a plain row that is gone through.

func isRight(l []api.Peer) bool {
	addrs, ids := map[int]int{}, map[api.ID]int{}
	rise := true
	for i, p := range l {
		addrs[p.Addr]++
		ids[p.ID]++
		rise = rise && p.Addr >= 0 && p.Addr <= 999 && (i == 0 || number(l[i-1].ID).Cmp(number(p.ID)) < 0)
	}
	return rise && len(l) >= 1 && len(l) <= 16 && len(addrs) == len(l) && len(ids) == len(l)
}

func ownerOf(l []api.Peer, id api.ID) int {
	for i, p := range l {
		if bytes.Compare(p.ID[:], id[:]) >= 0 {
			return i
		}
	}
	return 0
}

func behind(l []api.Peer, i int) int {
	if i == len(l)-1 {
		return 0
	}
	return i + 1
}

func copiesOf(l []api.Peer, id api.ID, r int) []int {
	var list []int
	for at := ownerOf(l, id); len(list) < r && !slices.Contains(list, at); at = behind(l, at) {
		list = append(list, at)
	}
	return list
}

func fingersOf(l []api.Peer, i int) []int {
	var list []int
	step := big.NewInt(1)
	for range 160 {
		list = append(list, ownerOf(l, place(new(big.Int).Add(number(l[i].ID), step))))
		step.Lsh(step, 1)
	}
	return list
}

func aheadOf(l []api.Peer, i int) int {
	for at := range l {
		if behind(l, at) == i {
			return at
		}
	}
	return -1
}

// inArc measures clockwise from the arc's start on; if both ends are the same, the arc is all of the ring.
func inArc(from, to, id api.ID) bool {
	way := func(end api.ID) *big.Int {
		d := new(big.Int).Sub(number(end), number(from))
		return d.Mod(d, around)
	}
	if from == to {
		return true
	}
	return id != from && way(id).Cmp(way(to)) <= 0
}

// hold asks all that can be asked of a row at a place, and holds it against the plain one.
func hold(t *testing.T, l []api.Peer, ids []api.ID, is []int, rs []int) {
	t.Helper()
	right := isRight(l)
	if circle.Is(l) != right {
		t.Errorf("P11.1: Is(%v): %t", l, !right)
	}
	for _, id := range ids {
		holdOwner(t, l, right, id)
		for _, r := range rs {
			holdCopies(t, l, right, id, r)
		}
	}
	for _, i := range is {
		holdPeer(t, l, right, i)
	}
}

func holdOwner(t *testing.T, l []api.Peer, right bool, id api.ID) {
	t.Helper()
	want, code := 0, api.ErrArg
	if right {
		want, code = ownerOf(l, id), api.OK
	}
	if got, e := circle.Owner(l, id); got != want || e != code {
		t.Errorf("P11.2: Owner(%v, %x): %d, %d, want %d, %d", l, id, got, e, want, code)
	}
}

func holdCopies(t *testing.T, l []api.Peer, right bool, id api.ID, r int) {
	t.Helper()
	var want []int
	code := api.ErrArg
	if right && r >= 1 && r <= 8 {
		want, code = copiesOf(l, id, r), api.OK
	}
	if got, e := circle.Copies(l, id, r); !slices.Equal(got, want) || e != code {
		t.Errorf("P11.2: Copies(%v, %x, %d): %v, %d, want %v, %d", l, id, r, got, e, want, code)
	}
}

func holdPeer(t *testing.T, l []api.Peer, right bool, i int) {
	t.Helper()
	var fingers []int
	var from, to api.ID
	code := api.ErrArg
	if right && i >= 0 && i < len(l) {
		fingers, from, to, code = fingersOf(l, i), l[aheadOf(l, i)].ID, l[i].ID, api.OK
	}
	if got, e := circle.Fingers(l, i); !slices.Equal(got, fingers) || e != code {
		t.Errorf("P11.2: Fingers(%v, %d): %v, %d, want %v, %d", l, i, got, e, fingers, code)
	}
	if a, b, e := circle.Arc(l, i); a != from || b != to || e != code {
		t.Errorf("P11.2: Arc(%v, %d): %x, %x, %d, want %x, %x, %d", l, i, a, b, e, from, to, code)
	}
}

// near are the places at which a circle's answers change, those beside them, and edges.
func near(l []api.Peer) []api.ID {
	ids := []api.ID{small(0), small(1), small(-1), small(-2), power(159, 0), power(159, -1), power(80, 0)}
	for _, p := range l {
		ids = append(ids, p.ID, plus(p.ID, 1), plus(p.ID, -1), plus(p.ID, 256))
	}
	return ids
}

// edges are circles of one peer, of few, and of as many as may be: at the ring's ends, side by side, unlike in their highest byte alone, in their lowest one, and at places where bytes taken with a sign would stand in another order.
func edges() [][]api.Peer {
	list := [][]api.Peer{
		smalls(0), smalls(-1), smalls(20), circleOf(power(159, 0)),
		smalls(0, -1), smalls(0, 1), smalls(-1, -2), smalls(5, 1000),
		smalls(10, 20, 30), smalls(0, 1, 2), smalls(-3, -2, -1), smalls(-1, 0, 1),
		circleOf(small(5), power(159, 5)), circleOf(power(159, -1), power(159, 0), power(159, 1)),
		circleOf(power(7, 0), power(7, -1), power(15, 0), power(15, -1), power(8, 0), power(16, 0)),
	}
	var top, low, powers, dense []api.ID
	for n := range int64(16) {
		top = append(top, api.ID{0: byte(n * 17)})
		low = append(low, api.ID{0: 200, 19: byte(n * 17)})
		powers = append(powers, power(uint(n*10+9), 0))
		dense = append(dense, small(n-8))
	}
	for n := range 17 {
		if n > 0 {
			list = append(list, circleOf(top[:n]...), circleOf(low[:n]...), circleOf(powers[:n]...), circleOf(dense[:n]...))
		}
	}
	return list
}

// others are circles of places that a source tells: all of the ring's, or few.
func others(count int) [][]api.Peer {
	source := rand.New(rand.NewSource(11))
	var list [][]api.Peer
	for range count {
		var ids []api.ID
		kind := source.Intn(3)
		for range 1 + source.Intn(16) {
			var id api.ID
			switch kind {
			case 0:
				source.Read(id[:])
			case 1:
				id = small(source.Int63n(40) - 20)
			case 2:
				id = power(uint(source.Intn(160)), source.Int63n(3)-1)
			}
			ids = append(ids, id)
		}
		list = append(list, circleOf(ids...))
	}
	return list
}

var all = []int{0, 1, 2, 3, 7, 8, 9, 15, 16, 17, -1}

func TestExample(t *testing.T) {
	l := example()
	for id, want := range map[int64]int{20: 1, 21: 2, 31: 0} {
		if at, e := circle.Owner(l, small(id)); at != want || e != api.OK {
			t.Errorf("P11.2: Owner of %d: %d, %d, want %d", id, at, e, want)
		}
	}
	if c, e := circle.Copies(l, small(25), 2); !slices.Equal(c, []int{2, 0}) || e != api.OK {
		t.Errorf("P11.2: two Copies of 25: %v, %d", c, e)
	}
	hold(t, l, near(l), all, all)
}

func TestNone(t *testing.T) {
	want := api.Peer{Addr: -1}
	if none := circle.None(); none != want || none != circle.None() {
		t.Errorf("P11.1: None: %v", none)
	}
	if circle.Is([]api.Peer{circle.None()}) || circle.Is(append(example(), circle.None())) {
		t.Error("P11.1: Is of a row with None")
	}
}

// TestOfKnown has sums that were reckoned elsewhere.
func TestOfKnown(t *testing.T) {
	l, e := circle.Of([]int{999, 0, 7, 10, 1})
	if e != api.OK || len(l) != 5 {
		t.Fatalf("P11.1: %v, %d", l, e)
	}
	for i, want := range []struct {
		addr int
		text string
	}{
		{10, "4e15dc72a6c09157df7aa886c76c4d0af1ac72c6"},
		{0, "500d81aafe637717a52f8650e54206e64da33d27"},
		{7, "c03e55d15602a33922858e97664ea33f368ef5de"},
		{999, "c924377ff69e74d6db3a723577ea55e36aaf5f0b"},
		{1, "f937c37e949d9efa20d2958af309235c73ec039a"},
	} {
		if l[i].Addr != want.addr || ident.Text(l[i].ID) != want.text {
			t.Errorf("P11.1: at %d stands %d, %s, want %v", i, l[i].Addr, ident.Text(l[i].ID), want)
		}
	}
}

// TestOfEach is of each address that there is, alone: all IDs are unlike, so that any of them make a circle.
func TestOfEach(t *testing.T) {
	ids := map[api.ID]int{}
	for addr := range 1000 {
		l, e := circle.Of([]int{addr})
		want := api.Peer{Addr: addr, ID: sha1.Sum([]byte("node" + strconv.Itoa(addr)))}
		if e != api.OK || len(l) != 1 || l[0] != want || !circle.Is(l) {
			t.Errorf("P11.1: Of %d: %v, %d, want %v", addr, l, e, want)
		}
		ids[want.ID] = addr
	}
	if len(ids) != 1000 {
		t.Errorf("P11.1: %d IDs", len(ids))
	}
}

// holdOf asks for the circle of addresses of which none stands there twice.
func holdOf(t *testing.T, addrs []int) {
	t.Helper()
	told := slices.Clone(addrs)
	l, e := circle.Of(addrs)
	if e != api.OK || len(l) != len(told) || !circle.Is(l) || !isRight(l) {
		t.Errorf("P11.1: Of(%v): %v, %d", told, l, e)
	}
	for _, p := range l {
		if !slices.Contains(told, p.Addr) || p.ID != sha1.Sum([]byte("node"+strconv.Itoa(p.Addr))) {
			t.Errorf("P11.1: Of(%v): %v", told, p)
		}
	}
	if !slices.Equal(addrs, told) {
		t.Errorf("R2: Of(%v) left %v", told, addrs)
	}
}

// orders tells all orders of a row, one by one.
func orders(addrs []int, tell func(addrs []int)) {
	if len(addrs) == 0 {
		tell(nil)
		return
	}
	for i, first := range addrs {
		rest := slices.Concat(addrs[:i], addrs[i+1:])
		orders(rest, func(behind []int) { tell(append([]int{first}, behind...)) })
	}
}

func TestOfInEachOrder(t *testing.T) {
	orders([]int{0, 999, 7, 500, 12, 120}, func(addrs []int) {
		for n := range addrs {
			holdOf(t, addrs[:n+1])
		}
	})
	source := rand.New(rand.NewSource(3))
	for range 300 {
		addrs := source.Perm(1000)[:1+source.Intn(16)]
		holdOf(t, addrs)
		l, _ := circle.Of(addrs)
		slices.Sort(addrs)
		if again, e := circle.Of(addrs); e != api.OK || !slices.Equal(l, again) {
			t.Errorf("P11.1: Of(%v), and in another order: %v, %v", addrs, again, l)
		}
	}
}

// rise has so many addresses, from the first one on.
func rise(from, count int) []int {
	var list []int
	for i := range count {
		list = append(list, from+i)
	}
	return list
}

func refuseOf(t *testing.T, addrs []int, want api.Errno) {
	t.Helper()
	if l, e := circle.Of(addrs); e != want || l != nil {
		t.Errorf("P11.1: Of(%v): %v, %d, want nil, %d", addrs, l, e, want)
	}
}

func TestOfSizes(t *testing.T) {
	for _, addrs := range [][]int{nil, {}, rise(0, 17), rise(0, 18), rise(983, 17), rise(0, 1000), make([]int, 1<<16)} {
		refuseOf(t, addrs, api.ErrLimit)
	}
	for n := 1; n <= 16; n++ {
		holdOf(t, rise(0, n))
		holdOf(t, rise(1000-n, n))
	}
}

func TestOfAddresses(t *testing.T) {
	holdOf(t, []int{0, 999})
	holdOf(t, []int{999, 0})
	for _, wrong := range sizes {
		refuseOf(t, []int{wrong}, api.ErrArg)
		for at := range 16 {
			refuseOf(t, slices.Insert(rise(400, 15), at, wrong), api.ErrArg)
			refuseOf(t, slices.Insert([]int{0, 999}, min(at, 2), wrong), api.ErrArg)
		}
	}
}

// TestOfTwice has an address once more, side by side, at both ends, and at any two places.
func TestOfTwice(t *testing.T) {
	for _, addrs := range [][]int{{0, 0}, {999, 999}, {5, 5, 5}, {5, 6, 5}, {6, 5, 5}, {5, 5, 6}, {1, 2, 3, 3, 4}, make([]int, 16)} {
		refuseOf(t, addrs, api.ErrTwice)
	}
	for n := 1; n <= 15; n++ {
		for from := range n {
			for to := range n + 1 {
				addrs := rise(990-n, n)
				refuseOf(t, slices.Insert(addrs, to, addrs[from]), api.ErrTwice)
			}
		}
	}
}

// TestOfFirstError is of rows that are wrong in several ways: ErrLimit stands ahead of ErrArg, and that ahead of ErrTwice.
func TestOfFirstError(t *testing.T) {
	for _, wrong := range sizes {
		refuseOf(t, append(rise(0, 16), wrong), api.ErrLimit)
		refuseOf(t, append([]int{wrong}, rise(0, 16)...), api.ErrLimit)
		refuseOf(t, append([]int{wrong, wrong}, rise(0, 15)...), api.ErrLimit)
		for _, addrs := range [][]int{{3, 3, wrong}, {3, wrong, 3}, {wrong, 3, 3}, {wrong, wrong}, {wrong, 3, wrong}, {3, wrong, wrong}} {
			refuseOf(t, addrs, api.ErrArg)
		}
		refuseOf(t, append(make([]int, 15), wrong), api.ErrArg)
	}
	refuseOf(t, make([]int, 17), api.ErrLimit)
	refuseOf(t, append(rise(0, 16), 0), api.ErrLimit)
}

// TestOfAnew writes to what was told of, and to what was told: neither changes anything that is told later.
func TestOfAnew(t *testing.T) {
	addrs := append(rise(20, 5), 70, 71)[:5:5]
	l, _ := circle.Of(addrs)
	told := slices.Clone(l)
	clear(addrs)
	if !slices.Equal(l, told) {
		t.Errorf("R2: what was told became %v", l)
	}
	clear(l)
	if again, e := circle.Of(rise(20, 5)); e != api.OK || !slices.Equal(again, told) {
		t.Errorf("R2: told once more: %v, %d", again, e)
	}
}

func TestIsSizes(t *testing.T) {
	var ids []api.ID
	for n := range int64(2000) {
		ids = append(ids, small(3*n))
	}
	for n, want := range map[int]bool{0: false, 1: true, 2: true, 15: true, 16: true, 17: false, 18: false, 32: false, 1000: false, 2000: false} {
		l := row(ids[:n]...)
		if circle.Is(l) != want {
			t.Errorf("P11.1: Is of %d peers: %t", n, !want)
		}
		hold(t, l, []api.ID{small(0), small(7), small(-1)}, []int{-1, 0, 1, n - 1, n}, []int{0, 1, 8, 9})
	}
	if circle.Is(nil) || circle.Is([]api.Peer{}) {
		t.Error("P11.1: Is of no peer")
	}
}

// TestIsEachSmallRow is of each row of up to three peers, of IDs and Addrs that are right, edges, and wrong.
func TestIsEachSmallRow(t *testing.T) {
	var peers []api.Peer
	for _, addr := range []int{-1, 0, 1, 999, 1000} {
		for _, id := range []api.ID{small(0), small(9), small(-1), power(159, 0)} {
			peers = append(peers, api.Peer{Addr: addr, ID: id})
		}
	}
	ids, few := []api.ID{small(5), small(-1)}, []int{-1, 0, 2}
	hold(t, nil, ids, few, few)
	for _, a := range peers {
		hold(t, []api.Peer{a}, ids, few, few)
		for _, b := range peers {
			hold(t, []api.Peer{a, b}, ids, few, few)
			for _, c := range peers {
				l := []api.Peer{a, b, c}
				if want := isRight(l); circle.Is(l) != want {
					t.Errorf("P11.1: Is(%v): %t", l, !want)
				}
			}
		}
	}
}

// TestIsOneWrong takes a circle of 16 that is right, and has one peer of it go wrong: its Addr, its ID, or both.
func TestIsOneWrong(t *testing.T) {
	right := edges()
	l := right[len(right)-1]
	if len(l) != 16 || !circle.Is(l) {
		t.Fatalf("P11.1: Is(%v)", l)
	}
	wrong := func(at int, p api.Peer, want bool) {
		t.Helper()
		changed := slices.Clone(l)
		changed[at] = p
		if circle.Is(changed) != want {
			t.Errorf("P11.1: with %v at %d Is tells %t", p, at, !want)
		}
		hold(t, changed, []api.ID{p.ID}, []int{at}, []int{1})
	}
	for at, p := range l {
		for _, addr := range sizes {
			wrong(at, api.Peer{Addr: addr, ID: p.ID}, false)
		}
		for other, q := range l {
			wrong(at, api.Peer{Addr: q.Addr, ID: p.ID}, at == other)
			wrong(at, api.Peer{Addr: p.Addr, ID: q.ID}, at == other)
			wrong(at, q, at == other)
		}
		for _, addr := range []int{0, 999} {
			wrong(at, api.Peer{Addr: addr, ID: p.ID}, true)
		}
		wrong(at, circle.None(), false)
	}
}

func TestOwner(t *testing.T) {
	l := example()
	for _, x := range []struct {
		id   int64
		want int
	}{{0, 0}, {1, 0}, {9, 0}, {10, 0}, {11, 1}, {19, 1}, {20, 1}, {21, 2}, {29, 2}, {30, 2}, {31, 0}, {255, 0}, {256, 0}, {-1, 0}, {-100, 0}} {
		if at, e := circle.Owner(l, small(x.id)); at != x.want || e != api.OK {
			t.Errorf("P11.2: Owner of %d: %d, %d, want %d", x.id, at, e, x.want)
		}
	}
	ends := smalls(0, -1)
	for _, x := range []struct {
		id   int64
		want int
	}{{0, 0}, {1, 1}, {-2, 1}, {-1, 1}} {
		if at, e := circle.Owner(ends, small(x.id)); at != x.want || e != api.OK {
			t.Errorf("P11.2: of a circle of 0 and the greatest place Owner of %d: %d, %d, want %d", x.id, at, e, x.want)
		}
	}
}

// TestAlone is of circles of one peer: all is its own.
func TestAlone(t *testing.T) {
	for _, l := range edges()[:4] {
		for _, id := range near(l) {
			at, e := circle.Owner(l, id)
			if at != 0 || e != api.OK {
				t.Errorf("P11.2: Owner(%v, %x): %d, %d", l, id, at, e)
			}
			for r := 1; r <= 8; r++ {
				if c, e := circle.Copies(l, id, r); !slices.Equal(c, []int{0}) || e != api.OK {
					t.Errorf("P11.2: Copies(%v, %x, %d): %v, %d", l, id, r, c, e)
				}
			}
			from, to, e := circle.Arc(l, 0)
			if from != l[0].ID || to != from || e != api.OK || !ident.Half(from, id, to) {
				t.Errorf("P11.3: Arc(%v, 0): %x, %x, %d, at %x", l, from, to, e, id)
			}
		}
		if f, e := circle.Fingers(l, 0); !slices.Equal(f, make([]int, 160)) || e != api.OK {
			t.Errorf("P11.2: Fingers(%v, 0): %v, %d", l, f, e)
		}
	}
}

func TestCopies(t *testing.T) {
	l := example()
	for _, x := range []struct {
		id   int64
		r    int
		want []int
	}{
		{25, 1, []int{2}}, {25, 2, []int{2, 0}}, {25, 3, []int{2, 0, 1}}, {25, 4, []int{2, 0, 1}}, {25, 8, []int{2, 0, 1}},
		{10, 1, []int{0}}, {10, 8, []int{0, 1, 2}}, {11, 3, []int{1, 2, 0}}, {31, 2, []int{0, 1}}, {-1, 8, []int{0, 1, 2}},
	} {
		if c, e := circle.Copies(l, small(x.id), x.r); !slices.Equal(c, x.want) || e != api.OK {
			t.Errorf("P11.2: %d Copies of %d: %v, %d, want %v", x.r, x.id, c, e, x.want)
		}
	}
	ten := smalls(0, 1, 2, 3, 4, 5, 6, 7, 8, 9)
	if c, e := circle.Copies(ten, small(5), 8); !slices.Equal(c, []int{5, 6, 7, 8, 9, 0, 1, 2}) || e != api.OK {
		t.Errorf("P11.2: eight Copies of ten: %v, %d", c, e)
	}
	falling := row(small(5), small(4))
	for _, r := range append([]int{0, 9, 10, 16, 17}, sizes...) {
		if c, e := circle.Copies(ten, small(5), r); len(c) != 0 || e != api.ErrArg {
			t.Errorf("P11.2: %d Copies: %v, %d, want ErrArg", r, c, e)
		}
		if c, e := circle.Copies(falling, small(5), r); len(c) != 0 || e != api.ErrArg {
			t.Errorf("P11.2: %d Copies of a wrong row: %v, %d, want ErrArg", r, c, e)
		}
	}
}

func TestFingers(t *testing.T) {
	l := example()
	for i, want := range [][]int{{1, 1, 1, 1, 2, 0}, {2, 2, 2, 2, 0, 0}, {0, 0, 0, 0, 0, 0}} {
		want = append(want, make([]int, 154)...)
		if f, e := circle.Fingers(l, i); !slices.Equal(f, want) || e != api.OK {
			t.Errorf("P11.2: Fingers of %d: %v, %d, want %v", i, f, e, want)
		}
	}
	// From one below the greatest place, 1 on is the greatest one, 2 on is 0, 4 on is 2.
	end := smalls(-2, -1, 0, 1, 2)
	want := append([]int{4, 0, 2}, make([]int, 157)...)
	for k := 3; k < 160; k++ {
		want[k] = 3
	}
	if f, e := circle.Fingers(end, 3); !slices.Equal(f, want) || e != api.OK {
		t.Errorf("P11.2: Fingers round the ring: %v, %d, want %v", f, e, want)
	}
}

// TestEachFinger has a peer just at the place of a finger, one below it, and one above it, from each of several peers; the last ones go round the ring.
func TestEachFinger(t *testing.T) {
	for _, from := range []api.ID{small(0), small(10), small(-1), small(-10), power(159, 0), power(100, -1)} {
		for k := range uint(160) {
			for _, off := range []int64{-1, 0, 1} {
				end := place(new(big.Int).Add(number(from), number(power(k, off))))
				l := circleOf(from, end)
				at, other := slices.IndexFunc(l, func(p api.Peer) bool { return p.ID == from }), 0
				if len(l) == 2 {
					other = 1 - at
				}
				want := other
				if off < 0 {
					want = at
				}
				f, e := circle.Fingers(l, at)
				if e != api.OK || len(f) != 160 || f[k] != want {
					t.Errorf("P11.2: from %x, with %x, Fingers: %v, %d; want %d at %d", from, end, f, e, want, k)
				}
			}
		}
	}
}

func TestArc(t *testing.T) {
	l := example()
	for i, want := range [][2]int64{{30, 10}, {10, 20}, {20, 30}} {
		if from, to, e := circle.Arc(l, i); from != small(want[0]) || to != small(want[1]) || e != api.OK {
			t.Errorf("P11.2: Arc of %d: %x, %x, %d, want %v", i, from, to, e, want)
		}
	}
	if from, to, e := circle.Arc(l[1:2], 0); from != small(20) || to != small(20) || e != api.OK {
		t.Errorf("P11.2: Arc of a peer alone: %x, %x, %d", from, to, e)
	}
}

// TestPlaces asks for the first place, the last one, one behind it, and others that are none of the circle.
func TestPlaces(t *testing.T) {
	for _, l := range edges() {
		n := len(l)
		for _, i := range []int{0, n - 1} {
			_, e := circle.Fingers(l, i)
			_, _, f := circle.Arc(l, i)
			if e != api.OK || f != api.OK {
				t.Errorf("P11.2: of %d peers Fingers and Arc of %d: %d, %d", n, i, e, f)
			}
		}
		for _, i := range append([]int{-1, -n, n, n + 1, 2 * n, 16}, sizes...) {
			f, e := circle.Fingers(l, i)
			from, to, code := circle.Arc(l, i)
			if len(f) != 0 || e != api.ErrArg || from != (api.ID{}) || to != (api.ID{}) || code != api.ErrArg {
				t.Errorf("P11.2: of %d peers Fingers and Arc of %d: %v, %d, %x, %x, %d", n, i, f, e, from, to, code)
			}
		}
	}
}

// TestArcsShareTheRing holds that each place is in the arc of its owner, and in no other one's.
func TestArcsShareTheRing(t *testing.T) {
	for _, l := range append(edges(), others(200)...) {
		ids := near(l)
		for _, p := range others(3) {
			ids = append(ids, near(p)...)
		}
		for _, id := range ids {
			own, e := circle.Owner(l, id)
			if e != api.OK {
				t.Fatalf("P11.2: Owner(%v, %x): %d", l, id, e)
			}
			for i := range l {
				from, to, e := circle.Arc(l, i)
				if half := ident.Half(from, id, to); e != api.OK || half != (i == own) || half != inArc(from, to, id) {
					t.Errorf("P11.3: %x, owned by %d, and the arc of %d of %v: %t", id, own, i, l, half)
				}
			}
		}
	}
}

// TestOneGoes holds that the places of a peer that goes are owned by the one behind it, and all others stay with theirs.
func TestOneGoes(t *testing.T) {
	for _, l := range append(edges(), others(200)...) {
		if len(l) == 1 {
			continue
		}
		ids := near(l)
		for gone := range l {
			left := slices.Concat(l[:gone], l[gone+1:])
			for _, id := range ids {
				own, e := circle.Owner(l, id)
				now, f := circle.Owner(left, id)
				want := own
				if own == gone {
					want = behind(l, gone)
				}
				if e != api.OK || f != api.OK || left[now] != l[want] {
					t.Errorf("P11.3: without %d of %v %x is owned by %v, ahead by %v", gone, l, id, left[now], l[own])
				}
			}
		}
	}
}

// TestManyCircles holds circles, and rows that are wrong, against the plain row.
func TestManyCircles(t *testing.T) {
	for _, l := range append(edges(), others(150)...) {
		hold(t, l, near(l), all, all)
		if len(l) > 1 {
			turned := append(slices.Clone(l[1:]), l[0])
			hold(t, turned, near(l)[:12], all, all)
		}
	}
	source := rand.New(rand.NewSource(5))
	for range 150 {
		l, e := circle.Of(source.Perm(1000)[:1+source.Intn(16)])
		if e != api.OK {
			t.Fatalf("P11.1: %d", e)
		}
		hold(t, l, near(l), all, all)
	}
}

// TestSmallRing is of all circles of few places, and of all those places.
func TestSmallRing(t *testing.T) {
	places := []api.ID{small(0), small(1), small(2), power(159, 0), power(159, 1), small(-2), small(-1)}
	for set := 1; set < 1<<len(places); set++ {
		var ids []api.ID
		for i, id := range places {
			if set>>i&1 == 1 {
				ids = append(ids, id)
			}
		}
		hold(t, circleOf(ids...), places, rise(-1, len(ids)+2), rise(0, 10))
	}
}

// TestAnything calls with whatever there is: nothing panics, and what is refused brings nothing.
func TestAnything(t *testing.T) {
	source := rand.New(rand.NewSource(7))
	numbers := append(rise(-2, 22), sizes...)
	for range 3000 {
		var l []api.Peer
		for range source.Intn(20) {
			p := api.Peer{Addr: numbers[source.Intn(len(numbers))], ID: small(source.Int63n(30) - 5)}
			l = append(l, p)
		}
		i, r := numbers[source.Intn(len(numbers))], numbers[source.Intn(len(numbers))]
		hold(t, l, []api.ID{small(source.Int63n(40) - 10)}, []int{i}, []int{r})
		var addrs []int
		for range source.Intn(20) {
			addrs = append(addrs, numbers[source.Intn(len(numbers))])
		}
		if told, e := circle.Of(addrs); e != api.OK && told != nil || e == api.OK && !isRight(told) {
			t.Errorf("P11.1: Of(%v): %v, %d", addrs, told, e)
		}
	}
	long := make([]api.Peer, 1<<20)
	hold(t, long, []api.ID{small(0)}, []int{0, 1<<20 - 1}, []int{1})
}

// TestRowStays hands in a part of a row: neither that nor what is behind it changes, whatever is asked.
func TestRowStays(t *testing.T) {
	for _, l := range append(edges(), row(small(3), small(2), small(2)), row(small(1), small(1))) {
		whole := append(slices.Clone(l), row(small(77), small(78), small(79))...)
		kept := slices.Clone(whole)
		hold(t, whole[:len(l)], near(l)[:8], all, all)
		hold(t, whole, near(l)[:8], all, all)
		if !slices.Equal(whole, kept) {
			t.Errorf("R2: %v became %v", kept, whole)
		}
	}
	addrs := []int{5, 3, 999, 0, 4, 3, -1}
	for n := range len(addrs) + 1 {
		circle.Of(addrs[:n])
	}
	if !slices.Equal(addrs, []int{5, 3, 999, 0, 4, 3, -1}) {
		t.Errorf("R2: the addresses became %v", addrs)
	}
}

// TestAnswersStay writes to lists that came out, and to the row behind them: what was told is told again, and what came out ahead does not change.
func TestAnswersStay(t *testing.T) {
	l := smalls(10, 20, 30, 40)
	copies, _ := circle.Copies(l, small(35), 3)
	fingers, _ := circle.Fingers(l, 2)
	from, to, _ := circle.Arc(l, 2)
	keptCopies, keptFingers := slices.Clone(copies), slices.Clone(fingers)
	hold(t, l, near(l), all, all)
	again, _ := circle.Copies(l, small(35), 3)
	clear(again)
	more, _ := circle.Fingers(l, 2)
	clear(more)
	hold(t, l, near(l), all, all)
	clear(l)
	if !slices.Equal(copies, keptCopies) || !slices.Equal(fingers, keptFingers) || from != small(20) || to != small(30) {
		t.Errorf("R2: what came out became %v, %v, %x, %x", copies, fingers, from, to)
	}
}

package sorted_test

import (
	"math"
	"math/rand"
	"slices"
	"sort"
	"strconv"
	"strings"
	"testing"

	"espalier/api"
	"espalier/sorted"
)

const greatest = math.MaxUint64

// ends are keys at which one that is taken with a sign, or goes round, stands elsewhere.
var ends = []uint64{0, 1, 2, 1<<31 - 1, 1 << 31, 1<<32 - 1, 1 << 32, 1<<63 - 1, 1 << 63, 1<<63 + 1, greatest - 1, greatest}

// mosts are how many may be asked for at the most, from none to more than there can be.
var mosts = []int{0, 1, 2, 3, 5, 100, math.MaxInt32, math.MaxInt - 1, math.MaxInt}

var belowNone = []int{-1, -2, math.MinInt32, math.MinInt}

// longVals have one byte too many, or more; the third one has few runes.
var longVals = []string{strings.Repeat("a", 65), strings.Repeat("\x00", 66), strings.Repeat("\u20ac", 22), strings.Repeat("b", 4096), strings.Repeat("c", 1<<20)}

// rightVals are of any bytes, and of no bytes.
var rightVals = []string{"", "a", "\x00", "\xff\xfe", "\u20ac", strings.Repeat("a", 63), strings.Repeat("b", 64), strings.Repeat("\x00", 64), strings.Repeat("\U0001f333", 16)}

// A plain row of items, in no order: what a map tells is what is found by going through all of it.
type plain []api.Item

func (p plain) at(key uint64) int {
	return slices.IndexFunc(p, func(i api.Item) bool { return i.Key == key })
}

func (p plain) get(key uint64) (string, bool) {
	if at := p.at(key); at >= 0 {
		return p[at].Val, true
	}
	return "", false
}

func (p *plain) drop(key uint64) (string, bool) {
	val, has := p.get(key)
	if has {
		last := len(*p) - 1
		(*p)[p.at(key)] = (*p)[last]
		*p = (*p)[:last]
	}
	return val, has
}

func (p *plain) put(key uint64, val string) (string, bool) {
	old, had := p.drop(key)
	*p = append(*p, api.Item{Key: key, Val: val})
	return old, had
}

// between has the items of the keys from lo to hi, rising.
func (p plain) between(lo, hi uint64) []api.Item {
	var items []api.Item
	for _, i := range p {
		if lo <= i.Key && i.Key <= hi {
			items = append(items, i)
		}
	}
	sort.Slice(items, func(a, b int) bool { return items[a].Key < items[b].Key })
	return items
}

func (p plain) rank(key uint64) int {
	n := 0
	for _, i := range p {
		if i.Key < key {
			n++
		}
	}
	return n
}

// A pair is a map, and the plain row that is told the same.
type pair struct {
	t   *testing.T
	m   *sorted.Map
	row plain
}

func newPair(t *testing.T, items ...api.Item) *pair {
	t.Helper()
	p := &pair{t: t, m: sorted.New()}
	for _, i := range items {
		p.put(i.Key, i.Val)
	}
	return p
}

func (p *pair) put(key uint64, val string) {
	p.t.Helper()
	old, had := p.row.put(key, val)
	if gotOld, gotHad, e := p.m.Put(key, val); gotOld != old || gotHad != had || e != api.OK {
		p.t.Errorf("P7.1: Put(%d, %.9q): %q, %t, %d, want %q, %t", key, val, gotOld, gotHad, e, old, had)
	}
}

func (p *pair) refuse(key uint64, val string) {
	p.t.Helper()
	if old, had, e := p.m.Put(key, val); old != "" || had || e != api.ErrLimit {
		p.t.Errorf("P7.1: Put(%d, of %d bytes): %q, %t, %d, want ErrLimit", key, len(val), old, had, e)
	}
}

func (p *pair) get(key uint64) {
	p.t.Helper()
	val, has := p.row.get(key)
	if gotVal, gotHas := p.m.Get(key); gotVal != val || gotHas != has {
		p.t.Errorf("P7.2: Get(%d): %q, %t, want %q, %t", key, gotVal, gotHas, val, has)
	}
}

func (p *pair) drop(key uint64) {
	p.t.Helper()
	val, has := p.row.drop(key)
	if gotVal, gotHas := p.m.Drop(key); gotVal != val || gotHas != has {
		p.t.Errorf("P7.2: Drop(%d): %q, %t, want %q, %t", key, gotVal, gotHas, val, has)
	}
}

// between asks for a range of any kind, and tells what the map answered.
func (p *pair) between(lo, hi uint64, most int) []api.Item {
	p.t.Helper()
	var want []api.Item
	code := api.OK
	switch {
	case lo > hi:
		code = api.ErrRange
	case most < 0:
		code = api.ErrArg
	default:
		want = p.row.between(lo, hi)
		want = want[:min(len(want), most)]
	}
	got, e := p.m.Range(lo, hi, most)
	if e != code || !slices.Equal(got, want) || code != api.OK && got != nil {
		p.t.Errorf("P7.3: Range(%d, %d, %d): %.99v, %d, want %.99v, %d", lo, hi, most, got, e, want, code)
	}
	return got
}

func (p *pair) rank(key uint64) {
	p.t.Helper()
	if got, want := p.m.Rank(key), p.row.rank(key); got != want {
		p.t.Errorf("P7.3: Rank(%d): %d, want %d", key, got, want)
	}
}

func (p *pair) sizeAndEnds() {
	p.t.Helper()
	if got := p.m.Size(); got != len(p.row) {
		p.t.Errorf("P7.1: Size: %d, want %d", got, len(p.row))
	}
	var least, last api.Item
	all := p.row.between(0, greatest)
	if len(all) > 0 {
		least, last = all[0], all[len(all)-1]
	}
	if got, has := p.m.Min(); got != least || has != (len(all) > 0) {
		p.t.Errorf("P7.3: Min: %v, %t, want %v", got, has, least)
	}
	if got, has := p.m.Max(); got != last || has != (len(all) > 0) {
		p.t.Errorf("P7.3: Max: %v, %t, want %v", got, has, last)
	}
}

// hold asks for all that the map tells: of each of its keys, of those beside them, and of the ends.
func (p *pair) hold() {
	p.t.Helper()
	p.sizeAndEnds()
	p.between(0, greatest, math.MaxInt)
	keys := slices.Clone(ends)
	for _, i := range p.row {
		keys = append(keys, i.Key-1, i.Key, i.Key+1)
	}
	for _, key := range keys {
		p.get(key)
		p.rank(key)
	}
}

func item(key uint64, val string) api.Item { return api.Item{Key: key, Val: val} }

func TestTheChaptersExamples(t *testing.T) {
	m := sorted.New()
	for i, x := range []struct {
		key      uint64
		val, old string
		had      bool
	}{{5, "a", "", false}, {3, "b", "", false}, {5, "c", "a", true}} {
		if old, had, e := m.Put(x.key, x.val); old != x.old || had != x.had || e != api.OK {
			t.Errorf("P7.1: put %d: %q, %t, %d", i, old, had, e)
		}
	}
	if l, e := m.Range(4, 9, 7); !slices.Equal(l, []api.Item{item(5, "c")}) || e != api.OK {
		t.Errorf("P7.3: Range: %v, %d", l, e)
	}
	if n := m.Rank(4); n != 1 {
		t.Errorf("P7.3: Rank: %d", n)
	}
	if i, has := m.Min(); i != item(3, "b") || !has {
		t.Errorf("P7.3: Min: %v, %t", i, has)
	}
	newPair(t, item(5, "a"), item(3, "b"), item(5, "c")).hold()
}

// TestNil asks with what is wrong otherwise, too: ErrNil stands ahead of the other errors.
func TestNil(t *testing.T) {
	var m *sorted.Map
	for _, key := range ends {
		for _, val := range slices.Concat(rightVals, longVals) {
			if old, had, e := m.Put(key, val); old != "" || had || e != api.ErrNil {
				t.Errorf("P7.1: Put of nil: %q, %t, %d", old, had, e)
			}
		}
		if val, has := m.Get(key); val != "" || has {
			t.Errorf("P7.2: Get of nil: %q, %t", val, has)
		}
		if val, has := m.Drop(key); val != "" || has {
			t.Errorf("P7.2: Drop of nil: %q, %t", val, has)
		}
		if n := m.Rank(key); n != 0 {
			t.Errorf("P7.3: Rank of nil: %d", n)
		}
		for _, most := range slices.Concat(mosts, belowNone) {
			for _, hi := range ends {
				if l, e := m.Range(key, hi, most); l != nil || e != api.ErrNil {
					t.Errorf("P7.3: Range(%d, %d, %d) of nil: %v, %d", key, hi, most, l, e)
				}
			}
		}
	}
	least, a := m.Min()
	last, b := m.Max()
	if least != (api.Item{}) || last != (api.Item{}) || a || b || m.Size() != 0 {
		t.Errorf("P7.3: Min, Max and Size of nil: %v, %t, %v, %t, %d", least, a, last, b, m.Size())
	}
}

func TestNone(t *testing.T) {
	p := newPair(t)
	if p.m == nil {
		t.Fatal("P7.1: New is nil")
	}
	p.hold()
	for _, lo := range ends {
		p.drop(lo)
		for _, hi := range ends {
			for _, most := range slices.Concat(mosts, belowNone) {
				p.between(lo, hi, most)
			}
		}
	}
	p.hold()
}

// TestNoneAgain is of a map from which all is dropped.
func TestNoneAgain(t *testing.T) {
	for _, order := range [][]uint64{{0}, {greatest}, {0, greatest}, {greatest, 0}, {3, 1, 2}, {1, 2, 3}, {3, 2, 1}} {
		p := newPair(t)
		for range 3 {
			for _, key := range order {
				p.put(key, "a")
			}
			p.hold()
			for _, key := range order {
				p.drop(key)
				p.hold()
			}
		}
		if n := p.m.Size(); n != 0 {
			t.Errorf("P7.2: %d left of %d", n, order)
		}
	}
}

func TestVals(t *testing.T) {
	for _, key := range ends {
		p := newPair(t, item(7, "seven"))
		for _, val := range rightVals {
			p.put(key, val)
			if got, has := p.m.Get(key); got != val || !has {
				t.Errorf("P7.4: put %q, got %q, %t", val, got, has)
			}
			p.hold()
		}
		for _, val := range rightVals {
			p.drop(key)
			p.put(key, val)
			p.hold()
		}
	}
}

// TestLongVals is of keys that are there, and of others: the map stays as it was, with the value that the key had.
func TestLongVals(t *testing.T) {
	for _, val := range longVals {
		none := newPair(t)
		none.refuse(5, val)
		none.hold()
		p := newPair(t, item(5, "five"), item(0, ""), item(greatest, strings.Repeat("a", 64)))
		for _, key := range append([]uint64{3, 4, 5, 6}, ends...) {
			p.refuse(key, val)
			p.hold()
		}
	}
}

func TestPutAgain(t *testing.T) {
	p := newPair(t, item(1, "one"), item(2, "two"), item(3, "three"))
	for _, val := range []string{"a", "a", "", "", "b"} {
		p.put(2, val)
		p.hold()
	}
	if n := p.m.Size(); n != 3 {
		t.Errorf("P7.1: a key that is put again counts anew: %d", n)
	}
}

func TestDropOfNothing(t *testing.T) {
	p := newPair(t, item(10, "ten"), item(20, ""), item(30, "thirty"))
	for _, key := range append([]uint64{9, 11, 19, 21, 29, 31}, ends...) {
		p.drop(key)
		p.hold()
	}
	for range 3 {
		p.drop(20)
		p.hold()
	}
	if val, has := newPair(t, item(20, "")).m.Drop(20); val != "" || !has {
		t.Errorf("P7.2: Drop of a value of no bytes: %q, %t", val, has)
	}
	if val, has := newPair(t, item(20, "")).m.Get(20); val != "" || !has {
		t.Errorf("P7.2: Get of a value of no bytes: %q, %t", val, has)
	}
}

// TestKeysHaveNoSign has them put in an order that is neither theirs nor that of numbers with a sign.
func TestKeysHaveNoSign(t *testing.T) {
	p := newPair(t)
	for n := range ends {
		key := ends[(5*n+7)%len(ends)]
		p.put(key, strconv.FormatUint(key, 10)[:1])
		p.hold()
	}
	if n := p.m.Size(); n != len(ends) {
		t.Fatalf("P7.1: %d keys, want %d", n, len(ends))
	}
	for n, key := range ends {
		if got := p.m.Rank(key); got != n {
			t.Errorf("P7.3: Rank(%d): %d, want %d", key, got, n)
		}
	}
	for _, lo := range ends {
		for _, hi := range ends {
			for _, most := range slices.Concat(mosts, belowNone) {
				p.between(lo, hi, most)
			}
		}
	}
}

func TestRange(t *testing.T) {
	p := newPair(t, item(30, "c"), item(10, "a"), item(40, ""), item(20, "b"))
	all := []api.Item{item(10, "a"), item(20, "b"), item(30, "c"), item(40, "")}
	for i, x := range []struct {
		lo, hi uint64
		most   int
		want   []api.Item
		e      api.Errno
	}{
		{0, greatest, 4, all, api.OK},
		{0, greatest, 3, all[:3], api.OK},
		{0, greatest, 1, all[:1], api.OK},
		{0, greatest, 0, nil, api.OK},
		{0, greatest, 5, all, api.OK},
		{0, greatest, math.MaxInt, all, api.OK},
		{20, greatest, math.MaxInt, all[1:], api.OK},
		{10, 40, 9, all, api.OK},
		{11, 39, 9, all[1:3], api.OK},
		{11, 39, 1, all[1:2], api.OK},
		{9, 10, 9, all[:1], api.OK},
		{20, 20, 9, all[1:2], api.OK},
		{20, 20, 0, nil, api.OK},
		{40, 40, 1, all[3:], api.OK},
		{25, 25, 9, nil, api.OK},
		{21, 29, 9, nil, api.OK},
		{0, 0, 9, nil, api.OK},
		{greatest, greatest, 9, nil, api.OK},
		{41, greatest, 9, nil, api.OK},
		{20, 19, 9, nil, api.ErrRange},
		{greatest, 0, 0, nil, api.ErrRange},
		{20, 19, -1, nil, api.ErrRange},
		{20, 20, -1, nil, api.ErrArg},
		{0, greatest, math.MinInt, nil, api.ErrArg},
	} {
		if l, e := p.m.Range(x.lo, x.hi, x.most); !slices.Equal(l, x.want) || e != x.e {
			t.Errorf("P7.3: %d: Range(%d, %d, %d): %v, %d", i, x.lo, x.hi, x.most, l, e)
		}
	}
	p.hold()
}

// TestRangesStay keeps what each range was when it was told, while the map changes in every way.
func TestRangesStay(t *testing.T) {
	p := newPair(t)
	var told, kept [][]api.Item
	for n := range uint64(60) {
		p.put(n*7%60, strconv.FormatUint(n, 10))
		if n%3 == 0 {
			p.put(n*5%60, "again")
		}
		if n%4 == 0 {
			p.drop(n * 11 % 60)
		}
		for _, most := range []int{1, 10, math.MaxInt} {
			l := p.between(n%20, 59, most)
			told, kept = append(told, l), append(kept, slices.Clone(l))
		}
	}
	for n := range uint64(60) {
		p.drop(n)
	}
	for i := range told {
		if !slices.Equal(told[i], kept[i]) {
			t.Errorf("R2: range %d was %v, is %v", i, kept[i], told[i])
		}
	}
}

// TestRangesAreNewMemory writes to what was told, and behind it: neither the map nor another range has it.
func TestRangesAreNewMemory(t *testing.T) {
	p := newPair(t, item(1, "a"), item(2, "b"), item(3, "c"), item(4, "d"))
	other := p.between(0, greatest, 9)
	for _, most := range []int{0, 1, 2, 4, 9} {
		l := p.between(1, 4, most)
		for i := range l {
			l[i] = item(99, "wrong")
		}
		_ = append(l, item(98, "wrong"), item(97, "wrong"))
		p.hold()
	}
	if !slices.Equal(other, []api.Item{item(1, "a"), item(2, "b"), item(3, "c"), item(4, "d")}) {
		t.Errorf("R2: what was told is now %v", other)
	}
}

func TestMapsAreApart(t *testing.T) {
	a, b := newPair(t), newPair(t)
	for n := range uint64(40) {
		a.put(n, "a")
		b.put(n/2, "b")
		if n%3 == 0 {
			a.drop(n / 2)
		}
	}
	a.hold()
	b.hold()
	newPair(t).hold()
}

// keySets are all sets of five keys, spread from the least one to the greatest one.
func keySets() [][]uint64 {
	var sets [][]uint64
	of := []uint64{0, 1, 5, 1 << 63, greatest}
	for bits := range 1 << len(of) {
		var set []uint64
		for i, key := range of {
			if bits>>i&1 == 1 {
				set = append(set, key)
			}
		}
		sets = append(sets, set)
	}
	return sets
}

func TestRangesSideBySide(t *testing.T) {
	cuts := []uint64{0, 1, 2, 4, 5, 6, 1<<63 - 1, 1 << 63, greatest - 1, greatest}
	for _, set := range keySets() {
		p := newPair(t)
		for _, key := range set {
			p.put(key, strconv.FormatUint(key, 16))
		}
		for _, lo := range cuts {
			for _, mid := range cuts {
				for _, hi := range cuts {
					if lo > mid || mid >= hi {
						continue
					}
					left, right, whole := p.between(lo, mid, 9), p.between(mid+1, hi, 9), p.between(lo, hi, 9)
					if !slices.Equal(slices.Concat(left, right), whole) {
						t.Errorf("P7.4: %d: %v and %v, but %v", set, left, right, whole)
					}
				}
			}
		}
		pieceByPiece(t, p)
	}
}

// pieceByPiece goes on behind the last key that was told, for one, two and three at a time.
func pieceByPiece(t *testing.T, p *pair) {
	t.Helper()
	whole := p.between(0, greatest, math.MaxInt)
	for most := 1; most <= 3; most++ {
		var got []api.Item
		for lo := uint64(0); ; {
			l := p.between(lo, greatest, most)
			got = append(got, l...)
			if len(l) < most || l[most-1].Key == greatest || t.Failed() {
				break
			}
			lo = l[most-1].Key + 1
		}
		if !slices.Equal(got, whole) {
			t.Errorf("P7.4: %d at a time: %v, want %v", most, got, whole)
		}
	}
}

// TestEachKeySet is of all sets of few keys, from which each key is dropped, or to which it is put again: the other ones stay.
func TestEachKeySet(t *testing.T) {
	for _, set := range keySets() {
		for _, changed := range ends {
			p := newPair(t)
			for n, key := range set {
				p.put(key, strconv.Itoa(n))
			}
			p.put(changed, "changed")
			p.hold()
			p.drop(changed)
			p.hold()
		}
	}
}

// A choice is the keys that a script is about.
type choice struct {
	name string
	key  func(source *rand.Rand) uint64
}

var choices = []choice{
	{"few", func(source *rand.Rand) uint64 { return source.Uint64() % 6 }},
	{"some", func(source *rand.Rand) uint64 { return source.Uint64() % 200 }},
	{"ends", func(source *rand.Rand) uint64 { return ends[source.Intn(len(ends))] }},
	{"near the greatest", func(source *rand.Rand) uint64 { return greatest - source.Uint64()%40 }},
	{"any", func(source *rand.Rand) uint64 { return source.Uint64() }},
	{"any length", func(source *rand.Rand) uint64 { return source.Uint64() >> source.Intn(64) }},
}

func TestScripts(t *testing.T) {
	for _, c := range choices {
		t.Run(c.name, func(t *testing.T) {
			for seed := range int64(12) {
				script(t, c, rand.New(rand.NewSource(seed)))
			}
		})
	}
}

// script has stretches in which there is more put than dropped, and others.
func script(t *testing.T, c choice, source *rand.Rand) {
	p := newPair(t)
	for step := range 1500 {
		puts := 2 + step/300%2*5
		switch n := source.Intn(20); {
		case n < puts:
			p.put(c.key(source), anyVal(source))
		case n < 9:
			p.drop(c.key(source))
		case n < 10:
			p.refuse(c.key(source), longVals[source.Intn(len(longVals))])
		case n < 13:
			p.get(c.key(source))
		case n < 15:
			p.rank(c.key(source))
		case n < 17:
			p.between(c.key(source), c.key(source), source.Intn(12)-1)
		case n < 18:
			p.between(0, c.key(source), math.MaxInt)
		case n < 19:
			key := c.key(source)
			p.between(key, key, 1)
		default:
			p.sizeAndEnds()
		}
		if step%250 == 249 {
			p.hold()
		}
		if t.Failed() {
			t.Fatalf("at step %d", step)
		}
	}
}

func anyVal(source *rand.Rand) string {
	val := make([]byte, source.Intn(api.MaxVal+1))
	source.Read(val)
	return string(val)
}

// TestManyKeys is of keys that come rising, falling, and from both ends and the middle.
func TestManyKeys(t *testing.T) {
	const n = 20000
	for name, order := range map[string]func(i uint64) uint64{
		"rising":  func(i uint64) uint64 { return i },
		"falling": func(i uint64) uint64 { return n - 1 - i },
		"mixed":   func(i uint64) uint64 { return i * 7919 % n },
	} {
		m := sorted.New()
		for i := range uint64(n) {
			if _, had, e := m.Put(3*order(i), strconv.FormatUint(order(i), 10)); had || e != api.OK {
				t.Fatalf("P7.1: %s: put %d: %t, %d", name, i, had, e)
			}
		}
		for i := range uint64(n) {
			val, has := m.Get(3 * i)
			_, beside := m.Get(3*i + 1)
			if val != strconv.FormatUint(i, 10) || !has || beside || m.Rank(3*i) != int(i) || m.Rank(3*i+1) != int(i)+1 {
				t.Fatalf("P7.4: %s: of %d: %q, %t, %t", name, 3*i, val, has, beside)
			}
		}
		for i := uint64(0); i < n; i += 2 {
			if _, has := m.Drop(3 * order(i)); !has {
				t.Fatalf("P7.2: %s: drop %d", name, i)
			}
		}
		all, e := m.Range(0, greatest, n)
		rising := slices.IsSortedFunc(all, func(a, b api.Item) int { return int(a.Key) - int(b.Key) })
		if len(all) != n/2 || m.Size() != n/2 || !rising || e != api.OK {
			t.Errorf("P7.3: %s: %d items, rising %t, %d", name, len(all), rising, e)
		}
		for i := uint64(1); i < n; i += 2 {
			if val, has := m.Get(3 * order(i)); !has || val != strconv.FormatUint(order(i), 10) {
				t.Fatalf("P7.4: %s: %d is gone with others", name, 3*order(i))
			}
		}
	}
}

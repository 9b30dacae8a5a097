package record_test

import (
	"fmt"
	"maps"
	"math"
	"math/big"
	"math/rand"
	"slices"
	"strings"
	"testing"

	"espalier/api"
	"espalier/record"
)

const greatest = math.MaxUint64

var (
	root  = api.Label{}
	none  = api.Label{Len: -1}
	left  = api.Label{Len: 1}
	right = api.Label{Len: 1, Bits: 1 << 63}
)

var kinds = []int{api.Leaf, api.Inner, api.Split, api.Merge, api.Frozen}

// wrongKinds are none, though some are one if only their lowest bits are taken.
var wrongKinds = []int{0, 6, 7, -1, -2, math.MinInt, math.MinInt + 1, 1<<8 + 1, 1<<16 + 5, 1<<32 + 1, 1<<32 + 2, 1<<62 + 3, math.MaxInt}

// ends are keys at which one that is taken with a sign, or goes round, stands elsewhere.
var ends = []uint64{0, 1, 2, 255, 256, 1<<62 - 1, 1 << 62, 1<<63 - 1, 1 << 63, 1<<63 + 1, greatest - 1, greatest}

// vals are of any bytes, of none, and up to the limit; longVals are above it, the third one by bytes alone, not by runes.
var (
	vals     = []string{"", "a", "ab", "\x00", "\xff\xfe", "\u20ac", strings.Repeat("a", 63), strings.Repeat("b", 64), strings.Repeat("\x00", 64)}
	longVals = []string{strings.Repeat("a", 65), strings.Repeat("\x00", 66), strings.Repeat("\u20ac", 22), strings.Repeat("b", 4096), strings.Repeat("c", 5000)}
)

var marks = []uint64{0, 1, 255, 1 << 63, greatest}

// nexts are right, wrongNexts are not, nor are they None().
var (
	nexts      = []api.Label{none, root, left, right, {Len: 3, Bits: 5 << 61}, {Len: 63}, {Len: 63, Bits: greatest - 1}, {Len: 64}, {Len: 64, Bits: greatest}}
	wrongNexts = []api.Label{{Len: -1, Bits: 1}, {Len: -1, Bits: greatest}, {Len: -2}, {Len: math.MinInt}, {Len: 65}, {Len: 128}, {Len: math.MaxInt}, {Bits: 1}, {Bits: 1 << 63}, {Len: 1, Bits: 1}, {Len: 1, Bits: 1 << 62}, {Len: 63, Bits: 1}}
)

func item(key uint64, val string) api.Item { return api.Item{Key: key, Val: val} }

// row has items of some keys, each with a val of its own.
func row(keys ...uint64) []api.Item {
	var items []api.Item
	for n, key := range keys {
		items = append(items, item(key, strings.Repeat("v", n)))
	}
	return items
}

// many has n items, from a key on.
func many(n int, from uint64) []api.Item {
	var items []api.Item
	for i := range n {
		items = append(items, item(from+uint64(i), "x"))
	}
	return items
}

// spread has 16 items, of the least key and of the greatest one, too.
func spread() []api.Item {
	items := many(15, 0)
	for i := range items {
		items[i].Key *= greatest / 15
	}
	return append(items, item(greatest, ""))
}

func rightRows() [][]api.Item {
	list := [][]api.Item{nil, {}, row(0), row(greatest), row(5), row(0, greatest), row(0, 1, 2), row(ends...), row(1<<63-1, 1<<63), many(15, 3), many(16, 0), many(16, greatest-15), spread()}
	for _, val := range vals {
		list = append(list, []api.Item{item(5, val)}, []api.Item{item(5, "a"), item(6, val), item(1<<63+6, "c")})
	}
	return list
}

func wrongRows() [][]api.Item {
	list := [][]api.Item{
		row(5, 5), row(0, 0), row(greatest, greatest), row(6, 5), row(1<<63, 1<<63-1), row(greatest, 0), row(1, 2, 2), row(1, 3, 2), row(2, 1, 3), row(1, 2, 1),
		many(17, 0), many(17, 1<<63-8), many(18, 5), many(300, 0), slices.Repeat(row(5), 17),
		append(many(15, 0), item(14, "")), append(many(15, 1), item(0, "")), append([]api.Item{item(9, "")}, many(15, 0)...),
	}
	for _, val := range longVals {
		list = append(list, []api.Item{item(5, val)}, []api.Item{item(5, val), item(6, "")}, []api.Item{item(5, ""), item(6, val), item(7, "")}, append(many(15, 0), item(99, val)))
	}
	return list
}

// The tests hold what is told against rules of their own.

func isLabel(l api.Label) bool { return 0 <= l.Len && l.Len <= 64 && l.Bits<<l.Len == 0 }

func covers(l api.Label, key uint64) bool { return (key^l.Bits)>>(64-l.Len) == 0 }

func hasNone(kind int) bool { return kind == api.Inner || kind == api.Merge }

func isRight(r api.Record) bool {
	if !slices.Contains(kinds, r.Kind) || len(r.Items) > 16 {
		return false
	}
	for i, x := range r.Items {
		for _, y := range r.Items[:i] {
			if y.Key >= x.Key {
				return false
			}
		}
		if len(x.Val) > 64 {
			return false
		}
	}
	if r.Next != none && !isLabel(r.Next) || r.Mark != 0 && r.Kind != api.Frozen {
		return false
	}
	return !hasNone(r.Kind) || len(r.Items) == 0 && r.Next == none
}

func same(a, b api.Record) bool {
	return a.Kind == b.Kind && slices.Equal(a.Items, b.Items) && a.Next == b.Next && a.Mark == b.Mark
}

func empty(r api.Record) bool { return same(r, api.Record{}) && r.Items == nil }

// short tells a record in few bytes.
func short(r api.Record) string { return fmt.Sprintf("%.200s", fmt.Sprintf("%+v", r)) }

func numberBytes(v uint64) string {
	digits := new(big.Int).SetUint64(v).Bytes()
	return string([]byte{byte(len(digits))}) + string(digits)
}

func textBytes(s string) string { return numberBytes(uint64(len(s))) + s }

func labelBytes(l api.Label) string {
	s := []byte{byte(l.Len)}
	for i := 0; i < l.Len; i += 8 {
		s = append(s, byte(l.Bits>>(56-i)))
	}
	return string(s)
}

// A part of a record's bytes is a number, a text or a label of it.
type part struct{ what, bytes string }

func partsOf(r api.Record) []part {
	list := []part{{"kind", numberBytes(uint64(r.Kind))}}
	if hasNone(r.Kind) {
		return list
	}
	list = append(list, part{"size", numberBytes(uint64(len(r.Items)))})
	for _, i := range r.Items {
		list = append(list, part{"key", numberBytes(i.Key)}, part{"val", textBytes(i.Val)})
	}
	if r.Next == none {
		list = append(list, part{"whether", "\x00"})
	} else {
		list = append(list, part{"whether", "\x01\x01"}, part{"next", labelBytes(r.Next)})
	}
	if r.Kind == api.Frozen {
		list = append(list, part{"mark", numberBytes(r.Mark)})
	}
	return list
}

func joined(list []part) string {
	var b strings.Builder
	for _, p := range list {
		b.WriteString(p.bytes)
	}
	return b.String()
}

func bytesOf(r api.Record) string { return joined(partsOf(r)) }

// A record that is lent has its items in the midst of a greater row, with others around that nobody may write to, and is as it was when it comes back.
type lent struct {
	r         api.Record
	all, kept []api.Item
}

func lend(r api.Record) *lent {
	if r.Items == nil {
		return &lent{r: r}
	}
	stop := item(77, "stop")
	all := slices.Concat([]api.Item{stop}, r.Items, slices.Repeat([]api.Item{stop}, 4))
	r.Items = all[1 : 1+len(r.Items)]
	return &lent{r: r, all: all, kept: slices.Clone(all)}
}

func (l *lent) back(t *testing.T, call string) {
	t.Helper()
	if !slices.Equal(l.all, l.kept) {
		t.Errorf("R2: %s wrote to the record that came in: %.200v, was %.200v", call, l.all, l.kept)
	}
}

// spoil writes to what was told, and behind it: nothing else has that memory.
func spoil(r api.Record) {
	for i := range r.Items {
		r.Items[i] = item(66, "spoilt")
	}
	_ = append(r.Items, item(66, "spoilt"))
}

// Those by the name of told.. are what the chapter says that a call tells.

func toldWith(r api.Record, key uint64, val string) (api.Record, api.Errno) {
	switch {
	case !isRight(r):
		return api.Record{}, api.ErrArg
	case r.Kind != api.Leaf:
		return api.Record{}, api.ErrKind
	case len(val) > 64:
		return api.Record{}, api.ErrLimit
	}
	all := byKey(r.Items)
	all[key] = val
	if len(all) > 16 {
		return api.Record{}, api.ErrFull
	}
	r.Items = inOrder(all)
	return r, api.OK
}

func toldWithout(r api.Record, key uint64) (api.Record, bool) {
	all := byKey(r.Items)
	if _, has := all[key]; !has || !isRight(r) {
		return r, false
	}
	delete(all, key)
	r.Items = inOrder(all)
	return r, true
}

func byKey(items []api.Item) map[uint64]string {
	all := map[uint64]string{}
	for _, i := range items {
		all[i.Key] = i.Val
	}
	return all
}

func inOrder(all map[uint64]string) []api.Item {
	var items []api.Item
	for _, key := range slices.Sorted(maps.Keys(all)) {
		items = append(items, item(key, all[key]))
	}
	return items
}

func toldHalves(r api.Record, l api.Label) (a, b api.Record, e api.Errno) {
	if !isRight(r) || !isLabel(l) {
		return a, b, api.ErrArg
	}
	for _, i := range r.Items {
		if !covers(l, i.Key) {
			return a, b, api.ErrArg
		}
	}
	if r.Kind != api.Leaf && r.Kind != api.Split {
		return a, b, api.ErrKind
	}
	if l.Len == 64 {
		return a, b, api.ErrRange
	}
	bit := uint64(1) << (63 - l.Len)
	a = api.Record{Kind: api.Leaf, Next: api.Label{Len: l.Len + 1, Bits: l.Bits + bit}}
	b = api.Record{Kind: api.Leaf, Next: r.Next}
	for _, i := range r.Items {
		half := &a
		if i.Key&bit != 0 {
			half = &b
		}
		half.Items = append(half.Items, i)
	}
	return a, b, api.OK
}

func toldUnion(a, b api.Record) (api.Record, api.Errno) {
	if !isRight(a) || !isRight(b) {
		return api.Record{}, api.ErrArg
	}
	for _, x := range a.Items {
		for _, y := range b.Items {
			if x.Key >= y.Key {
				return api.Record{}, api.ErrArg
			}
		}
	}
	for _, r := range []api.Record{a, b} {
		if r.Kind != api.Leaf && r.Kind != api.Frozen {
			return api.Record{}, api.ErrKind
		}
	}
	all := byKey(a.Items)
	maps.Copy(all, byKey(b.Items))
	if len(all) > 16 {
		return api.Record{}, api.ErrFull
	}
	return api.Record{Kind: api.Leaf, Items: inOrder(all), Next: b.Next}, api.OK
}

// Those by the name of hold.. ask a call of a record that is lent: most of them twice, with what was told first spoilt between.

func holdIs(t *testing.T, r api.Record) {
	t.Helper()
	given := lend(r)
	if got := record.Is(given.r); got != isRight(r) {
		t.Errorf("P8.1: Is(%s): %t", short(r), got)
	}
	given.back(t, "Is")
}

func holdFind(t *testing.T, r api.Record, key uint64) {
	t.Helper()
	val, has := "", false
	for _, i := range r.Items {
		if i.Key == key && !has {
			val, has = i.Val, true
		}
	}
	given := lend(r)
	if gotVal, gotHas := record.Find(given.r, key); gotVal != val || gotHas != has {
		t.Errorf("P8.1: Find(%s, %d): %.70q, %t, want %.70q, %t", short(r), key, gotVal, gotHas, val, has)
	}
	given.back(t, "Find")
}

func holdPut(t *testing.T, r api.Record) {
	t.Helper()
	want, code := "", api.ErrArg
	if isRight(r) {
		want, code = bytesOf(r), api.OK
	}
	given := lend(r)
	for range 2 {
		if got, e := record.Put(given.r); got != want || e != code {
			t.Errorf("P8.2: Put(%s): %.200q, %d, want %.200q, %d", short(r), got, e, want, code)
		}
	}
	given.back(t, "Put")
}

func holdGet(t *testing.T, s string, want api.Record) {
	t.Helper()
	for range 2 {
		got, e := record.Get(s)
		if !same(got, want) || e != api.OK {
			t.Errorf("P8.3: Get(%.200q): %s, %d, want %s", s, short(got), e, short(want))
		}
		spoil(got)
	}
}

func holdBad(t *testing.T, s string, want api.Errno) {
	t.Helper()
	if got, e := record.Get(s); !empty(got) || e != want {
		t.Errorf("P8.3: Get(%.200q): %s, %d, want nothing, %d", s, short(got), e, want)
	}
}

func holdWith(t *testing.T, r api.Record, key uint64, val string) {
	t.Helper()
	want, code := toldWith(r, key, val)
	given := lend(r)
	for range 2 {
		got, e := record.With(given.r, key, val)
		if !same(got, want) || e != code || code != api.OK && !empty(got) {
			t.Errorf("P8.4: With(%s, %d, %.70q): %s, %d, want %s, %d", short(r), key, val, short(got), e, short(want), code)
		}
		spoil(got)
	}
	given.back(t, "With")
}

func holdWithout(t *testing.T, r api.Record, key uint64) {
	t.Helper()
	want, has := toldWithout(r, key)
	given := lend(r)
	for range 2 {
		got, gotHas := record.Without(given.r, key)
		if !same(got, want) || gotHas != has {
			t.Errorf("P8.4: Without(%s, %d): %s, %t, want %s, %t", short(r), key, short(got), gotHas, short(want), has)
		}
		spoil(got)
	}
	given.back(t, "Without")
}

func holdHalves(t *testing.T, r api.Record, l api.Label) {
	t.Helper()
	a, b, code := toldHalves(r, l)
	given := lend(r)
	for turn := range 2 {
		gotA, gotB, e := record.Halves(given.r, l)
		if !same(gotA, a) || !same(gotB, b) || e != code || code != api.OK && !(empty(gotA) && empty(gotB)) {
			t.Errorf("P8.5: Halves(%s, %v): %s, %s, %d, want %s, %s, %d", short(r), l, short(gotA), short(gotB), e, short(a), short(b), code)
		}
		pair := []api.Record{gotA, gotB}
		spoil(pair[turn])
		if other := []api.Record{a, b}[1-turn]; !same(pair[1-turn], other) {
			t.Errorf("R2: Halves(%s, %v): one half has memory of the other one", short(r), l)
		}
		spoil(pair[1-turn])
	}
	given.back(t, "Halves")
}

func holdUnion(t *testing.T, a, b api.Record) {
	t.Helper()
	want, code := toldUnion(a, b)
	givenA, givenB := lend(a), lend(b)
	for range 2 {
		got, e := record.Union(givenA.r, givenB.r)
		if !same(got, want) || e != code || code != api.OK && !empty(got) {
			t.Errorf("P8.5: Union(%s, %s): %s, %d, want %s, %d", short(a), short(b), short(got), e, short(want), code)
		}
		spoil(got)
	}
	givenA.back(t, "Union")
	givenB.back(t, "Union")
}

// rights are records of each kind, with all that it may have.
func rights() []api.Record {
	var list []api.Record
	for _, kind := range kinds {
		for _, items := range rightRows() {
			for _, next := range nexts {
				for _, mark := range marks {
					if r := (api.Record{Kind: kind, Items: items, Next: next, Mark: mark}); isRight(r) {
						list = append(list, r)
					}
				}
			}
		}
	}
	return list
}

// anyRecords are right, and wrong in one way or in several ones.
func anyRecords() []api.Record {
	items := [][]api.Item{nil, row(5), row(0, greatest), many(16, 0), spread(), row(5, 5), row(6, 5), row(1<<63, 1), many(17, 0), {item(5, longVals[0])}, {item(5, "a"), item(5, "b"), item(3, "c")}}
	var list []api.Record
	for _, kind := range slices.Concat(kinds, wrongKinds) {
		for _, i := range items {
			for _, next := range []api.Label{none, root, right, {Len: 64, Bits: greatest}, {Len: -1, Bits: 1}, {Len: 1, Bits: 1}, {Len: 65}, {Len: math.MinInt}} {
				for _, mark := range []uint64{0, 1, greatest} {
					list = append(list, api.Record{Kind: kind, Items: i, Next: next, Mark: mark})
				}
			}
		}
	}
	return list
}

func leaf(items ...api.Item) api.Record {
	return api.Record{Kind: api.Leaf, Items: items, Next: none}
}

func TestNone(t *testing.T) {
	if l := record.None(); l != none {
		t.Errorf("P8.1: None() is %v", l)
	}
}

func TestTheChaptersExamples(t *testing.T) {
	for s, r := range map[string]api.Record{
		"\x01\x02":                              {Kind: api.Inner, Next: none},
		"\x01\x01\x01\x01\x01\x05\x01\x01a\x00": leaf(item(5, "a")),
	} {
		if got, e := record.Put(r); got != s || e != api.OK {
			t.Errorf("P8.2: Put(%v): %q, %d", r, got, e)
		}
		holdGet(t, s, r)
	}
}

// TestKnownBytes is of each kind, by bytes that are written out.
func TestKnownBytes(t *testing.T) {
	for s, r := range map[string]api.Record{
		"\x01\x01\x00\x00": leaf(),
		"\x01\x04":         {Kind: api.Merge, Next: none},
		"\x01\x03\x01\x02\x00\x00\x08\xff\xff\xff\xff\xff\xff\xff\xff\x01\x02ab\x01\x01\x00": {Kind: api.Split, Items: []api.Item{item(0, ""), item(greatest, "ab")}, Next: root},
		"\x01\x05\x00\x00\x00": {Kind: api.Frozen, Next: none},
		"\x01\x05\x01\x01\x02\x01\x02\x01\x01\x00\x01\x01\x03\xa0\x02\x01\x00": {Kind: api.Frozen, Items: []api.Item{item(258, "\x00")}, Next: api.Label{Len: 3, Bits: 5 << 61}, Mark: 256},
		"\x01\x01\x00\x01\x01\x40\x00\x00\x00\x00\x00\x00\x00\x09":             {Kind: api.Leaf, Next: api.Label{Len: 64, Bits: 9}},
	} {
		if got, e := record.Put(r); got != s || e != api.OK {
			t.Errorf("P8.2: Put(%v): %q, %d", r, got, e)
		}
		holdGet(t, s, r)
	}
}

func TestRightRecords(t *testing.T) {
	n := map[int]int{}
	for _, r := range rights() {
		n[r.Kind]++
		if !record.Is(r) {
			t.Errorf("P8.1: Is(%s): false", short(r))
		}
		holdIs(t, r)
		holdPut(t, r)
		holdGet(t, bytesOf(r), r)
	}
	rows := len(rightRows()) * len(nexts)
	if n[api.Leaf] != rows || n[api.Split] != rows || n[api.Frozen] != rows*len(marks) || n[api.Inner] != 2 || n[api.Merge] != 2 {
		t.Errorf("P8.1: right records by kind: %v", n)
	}
}

// TestWrongRecords has each of them wrong in one way alone.
func TestWrongRecords(t *testing.T) {
	var list []api.Record
	for _, kind := range wrongKinds {
		list = append(list, api.Record{Kind: kind, Next: none})
	}
	for _, kind := range kinds {
		for _, items := range wrongRows() {
			list = append(list, api.Record{Kind: kind, Items: items, Next: none})
		}
		for _, next := range wrongNexts {
			list = append(list, api.Record{Kind: kind, Next: next})
		}
		if kind != api.Frozen {
			for _, mark := range marks[1:] {
				list = append(list, api.Record{Kind: kind, Next: none, Mark: mark})
			}
		}
		if hasNone(kind) {
			list = append(list, api.Record{Kind: kind, Next: none, Items: row(0)}, api.Record{Kind: kind, Next: none, Items: row(1, 2)})
			for _, next := range nexts[1:] {
				list = append(list, api.Record{Kind: kind, Next: next})
			}
		}
	}
	for _, r := range append(list, api.Record{}) {
		if record.Is(r) {
			t.Errorf("P8.1: Is(%s): true", short(r))
		}
		holdPut(t, r)
	}
}

func TestFind(t *testing.T) {
	for _, items := range slices.Concat(rightRows(), wrongRows()) {
		keys := slices.Clone(ends)
		for _, i := range items {
			keys = append(keys, i.Key-1, i.Key, i.Key+1)
		}
		for _, kind := range []int{api.Leaf, api.Inner, api.Frozen, 0, -1} {
			for _, key := range keys {
				holdFind(t, api.Record{Kind: kind, Items: items, Next: none}, key)
			}
		}
	}
	r := leaf(item(9, "a"), item(5, ""), item(9, "b"), item(5, "c"), item(0, "d"))
	for _, x := range []struct {
		key uint64
		val string
		has bool
	}{{9, "a", true}, {5, "", true}, {0, "d", true}, {1, "", false}, {greatest, "", false}} {
		if val, has := record.Find(r, x.key); val != x.val || has != x.has {
			t.Errorf("P8.1: Find of %d: %q, %t", x.key, val, has)
		}
	}
}

// cutRecords have each part that there is.
func cutRecords() []api.Record {
	return []api.Record{
		leaf(), leaf(item(5, "a")), leaf(spread()...), leaf(many(16, 300)...), leaf(item(0, vals[7]), item(greatest, "")),
		{Kind: api.Inner, Next: none}, {Kind: api.Merge, Next: none},
		{Kind: api.Split, Items: row(ends...), Next: root},
		{Kind: api.Leaf, Items: row(258, 259), Next: api.Label{Len: 64, Bits: greatest}},
		{Kind: api.Frozen, Next: none, Mark: 0}, {Kind: api.Frozen, Items: row(1, 2, 3), Next: right, Mark: greatest},
	}
}

func TestBytesCutShort(t *testing.T) {
	for _, r := range cutRecords() {
		s := bytesOf(r)
		for n := range len(s) {
			holdBad(t, s[:n], api.ErrMore)
		}
		holdGet(t, s, r)
	}
}

func TestBytesLeft(t *testing.T) {
	for _, r := range cutRecords() {
		s := bytesOf(r)
		for b := range 256 {
			holdBad(t, s+string([]byte{byte(b)}), api.ErrForm)
		}
		for _, behind := range []string{"\x01\x02", "\x00\x00", s, strings.Repeat("\x00", 5000)} {
			holdBad(t, s+behind, api.ErrForm)
		}
	}
}

// wrongNumbers are no number's bytes, once all of them are there.
func wrongNumbers() []string {
	return []string{"\x09", "\x0a", "\xff", "\x01\x00", "\x02\x00\x01", "\x02\x00\xff", "\x08\x00\x01\x01\x01\x01\x01\x01\x01", "\x03\x00\x00\x00"}
}

// wrongParts are the forms of each part that no record has: each is to be told as soon as it is read.
func wrongParts(what string, keyAhead uint64) []string {
	var list []string
	numbers := func(n ...uint64) {
		for _, v := range n {
			list = append(list, numberBytes(v))
		}
	}
	if what != "next" {
		list = wrongNumbers()
	}
	switch what {
	case "kind":
		numbers(0, 6, 7, 255, 256, 257, 1<<16+1, 1<<32+1, 1<<32+2, 1<<63+4, greatest)
	case "size":
		numbers(17, 18, 255, 256, 257, 1<<32, 1<<32+1, 1<<63, 1<<63+16, greatest)
	case "second key":
		numbers(keyAhead, keyAhead-1, 0)
	case "val":
		for _, n := range []int{65, 66, 128, 256, 4096} {
			list = append(list, textBytes(strings.Repeat("a", n)))
		}
		numbers(4097, 65536, 1<<32+1, greatest)
	case "whether":
		numbers(2, 3, 255, 256, 257, 1<<32, 1<<32+1, greatest)
	case "next":
		list = []string{"\x41", "\x42", "\x80", "\xff", "\x01\x40", "\x01\x01", "\x07\x01", "\x09\x00\x40", "\x3f\x00\x00\x00\x00\x00\x00\x00\x01"}
	}
	return list
}

// TestWrongParts has a part of a right record turned into a wrong one: what was behind it is there, is cut off, or is something else.
func TestWrongParts(t *testing.T) {
	for _, r := range []api.Record{
		leaf(), leaf(item(5, "a")), leaf(row(7, 8, 9)...), leaf(many(16, 300)...), leaf(item(1, ""), item(greatest, "")),
		{Kind: api.Inner, Next: none}, {Kind: api.Merge, Next: none},
		{Kind: api.Split, Items: row(3, 1<<63), Next: left},
		{Kind: api.Frozen, Items: row(1, 2), Next: right, Mark: 7}, {Kind: api.Frozen, Next: none},
	} {
		list := partsOf(r)
		key := -1
		for at, p := range list {
			what, ahead := p.what, uint64(0)
			if what == "key" {
				if key++; key > 0 {
					what, ahead = "second key", r.Items[key-1].Key
				}
			}
			for _, wrong := range wrongParts(what, ahead) {
				for _, behind := range []string{"", joined(list[at+1:]), "\x00", "\x09", strings.Repeat("\x01", 99), strings.Repeat("\xff", 5000)} {
					holdBad(t, joined(list[:at])+wrong+behind, api.ErrForm)
				}
			}
		}
	}
}

// TestTheFirstWrongPartTells is of bytes that are wrong in two ways.
func TestTheFirstWrongPartTells(t *testing.T) {
	for s, want := range map[string]api.Errno{
		"":                                     api.ErrMore,
		"\x02\x00":                             api.ErrMore,
		"\x01\x01\x01\x11":                     api.ErrForm, // 17 items, of which none is there
		"\x01\x01\x02\x00":                     api.ErrMore, // a size that is cut short, ahead of its form
		"\x01\x01\x01\x10":                     api.ErrMore,
		"\x01\x01\x01\x02\x00\x00\x00":         api.ErrForm, // the second key is the first one, and has no val
		"\x01\x01\x01\x02\x01\x05\x00\x01\x04": api.ErrForm,
		"\x01\x01\x01\x02\x01\x05\x00\x01\x06": api.ErrMore,
		"\x01\x01\x01\x02\x01\x05\x00\x01":     api.ErrMore,
		"\x01\x01\x01\x01\x00\x01\x41" + strings.Repeat("a", 64):                  api.ErrMore, // a val of 65 bytes, one of which is not there
		"\x01\x01\x01\x01\x00\x01\x41" + strings.Repeat("a", 65):                  api.ErrForm,
		"\x01\x01\x01\x01\x00\x02\x10\x00" + strings.Repeat("a", 4095):            api.ErrMore,
		"\x01\x01\x01\x01\x00\x02\x10\x01":                                        api.ErrForm, // no text is so long
		"\x01\x01\x01\x02\x01\x05\x01\x41" + strings.Repeat("a", 65) + "\x01\x05": api.ErrForm,
		"\x01\x01\x01\x02\x01\x05\x01\x41" + strings.Repeat("a", 65):              api.ErrForm,
		"\x01\x01\x00\x01\x02":             api.ErrForm,
		"\x01\x01\x00\x01\x01":             api.ErrMore,
		"\x01\x01\x00\x01\x01\x01\x01":     api.ErrForm,
		"\x01\x05\x00\x00":                 api.ErrMore,
		"\x01\x05\x00\x01\x02":             api.ErrForm,
		"\x01\x05\x00\x01\x01\x41":         api.ErrForm,
		"\x01\x05\x00\x00\x09":             api.ErrForm,
		"\x01\x02\x09":                     api.ErrForm,
		"\x01\x06\x00\x00":                 api.ErrForm,
		"\x01\x06":                         api.ErrForm,
		"\x02\x01\x01\x00\x00":             api.ErrForm, // the kind 257
		"\x08\x00\x00\x00\x00\x00\x00\x00": api.ErrMore,
	} {
		holdBad(t, s, want)
	}
}

// A cursor reads bytes part by part, and stops at the first that is wrong.
type cursor struct {
	s    string
	code api.Errno
}

func (c *cursor) fail(code api.Errno) {
	if c.code == api.OK {
		c.code = code
	}
}

func (c *cursor) take(n uint64) string {
	if c.code != api.OK || n > uint64(len(c.s)) {
		c.fail(api.ErrMore)
		return ""
	}
	taken := c.s[:n]
	c.s = c.s[n:]
	return taken
}

func (c *cursor) number() uint64 {
	first := c.take(1)
	if first > "\x08" {
		c.fail(api.ErrForm)
	}
	if c.code != api.OK {
		return 0
	}
	digits := c.take(uint64(first[0]))
	v := new(big.Int).SetBytes([]byte(digits)).Uint64()
	if numberBytes(v) != first+digits {
		c.fail(api.ErrForm)
	}
	return v
}

func (c *cursor) text() string {
	n := c.number()
	if n > 4096 {
		c.fail(api.ErrForm)
	}
	return c.take(n)
}

func (c *cursor) label() api.Label {
	first := c.take(1)
	if first > "\x40" {
		c.fail(api.ErrForm)
	}
	if c.code != api.OK {
		return root
	}
	n := int(first[0])
	bytes := c.take(uint64(n+7) / 8)
	l := api.Label{Len: n, Bits: new(big.Int).SetBytes([]byte((bytes + strings.Repeat("\x00", 8))[:8])).Uint64()}
	if !isLabel(l) {
		c.fail(api.ErrForm)
	}
	return l
}

// toldGet reads any bytes as the chapter says.
func toldGet(s string) (api.Record, api.Errno) {
	c := &cursor{s: s}
	r := api.Record{Next: none}
	kind := c.number()
	if kind < 1 || kind > 5 {
		c.fail(api.ErrForm)
	}
	r.Kind = int(kind)
	if !hasNone(r.Kind) {
		n := c.number()
		if n > 16 {
			c.fail(api.ErrForm)
		}
		for i := 0; i < int(n) && c.code == api.OK; i++ {
			key := c.number()
			if i > 0 && key <= r.Items[i-1].Key {
				c.fail(api.ErrForm)
			}
			val := c.text()
			if len(val) > 64 {
				c.fail(api.ErrForm)
			}
			r.Items = append(r.Items, item(key, val))
		}
		switch c.number() {
		case 0:
		case 1:
			r.Next = c.label()
		default:
			c.fail(api.ErrForm)
		}
	}
	if r.Kind == api.Frozen {
		r.Mark = c.number()
	}
	if c.s != "" {
		c.fail(api.ErrForm)
	}
	if c.code != api.OK {
		return api.Record{}, c.code
	}
	return r, api.OK
}

// holdAny reads any bytes: those of a record, put again, are the bytes that were read.
func holdAny(t *testing.T, s string) {
	t.Helper()
	want, code := toldGet(s)
	got, e := record.Get(s)
	if !same(got, want) || e != code {
		t.Fatalf("P8.3: Get(%.200q): %s, %d, want %s, %d", s, short(got), e, short(want), code)
	}
	if e != api.OK {
		if !empty(got) {
			t.Errorf("P8.3: Get(%.200q): %s beside an error", s, short(got))
		}
		return
	}
	if again, f := record.Put(got); !record.Is(got) || again != s || f != api.OK {
		t.Errorf("P8.6: got of %.200q, put again: %.200q, %d", s, again, f)
	}
}

// TestAllFewBytes goes through all of two bytes, and all of few kinds of bytes.
func TestAllFewBytes(t *testing.T) {
	for a := range 256 {
		holdAny(t, string([]byte{byte(a)}))
		for b := range 256 {
			holdAny(t, string([]byte{byte(a), byte(b)}))
			for _, begin := range []string{"\x01\x01", "\x01\x05\x00", "\x01\x03\x00\x01\x01"} {
				holdAny(t, begin+string([]byte{byte(a), byte(b)}))
			}
		}
	}
	var all func(s string, more int)
	all = func(s string, more int) {
		holdAny(t, s)
		if more > 0 {
			for _, b := range []string{"\x00", "\x01", "\x02", "\x05", "\x11", "\x80"} {
				all(s+b, more-1)
			}
		}
	}
	all("", 6)
	all("\x01\x01\x01\x02", 6)
	all("\x01\x05\x01\x01\x00", 6)
}

// TestTurnedBytes has bytes of right records turned, left out, and put between.
func TestTurnedBytes(t *testing.T) {
	source := rand.New(rand.NewSource(1))
	list := cutRecords()
	for range 200 {
		list = append(list, anyRight(source))
	}
	for _, r := range list {
		s := bytesOf(r)
		holdAny(t, s)
		for range 300 {
			b := []byte(s)
			for range 1 + source.Intn(2) {
				at := source.Intn(len(b))
				switch source.Intn(5) {
				case 0:
					b[at] = byte(source.Intn(256))
				case 1:
					b[at]++
				case 2:
					b[at]--
				case 3:
					b = slices.Insert(b, at, byte(source.Intn(6)))
				case 4:
					b = slices.Concat(b[:at], b[at+1:], []byte{0})
				}
			}
			holdAny(t, string(b))
		}
	}
}

// anyRight is a right record, of a kind, items, a next and a mark by chance.
func anyRight(source *rand.Rand) api.Record {
	r := api.Record{Kind: kinds[source.Intn(len(kinds))], Next: none}
	if hasNone(r.Kind) {
		return r
	}
	all := map[uint64]string{}
	shift := source.Intn(64)
	for range source.Intn(17) {
		all[source.Uint64()>>shift] = anyVal(source)
	}
	r.Items = inOrder(all)
	if source.Intn(3) > 0 {
		r.Next = anyLabel(source)
	}
	if r.Kind == api.Frozen {
		r.Mark = source.Uint64() >> source.Intn(65)
	}
	return r
}

func anyVal(source *rand.Rand) string {
	val := make([]byte, source.Intn(api.MaxVal+1))
	source.Read(val)
	return string(val)
}

func anyLabel(source *rand.Rand) api.Label {
	n := source.Intn(65)
	return api.Label{Len: n, Bits: source.Uint64() >> (64 - n) << (64 - n)}
}

func TestWith(t *testing.T) {
	for _, items := range slices.Concat(rightRows(), wrongRows()) {
		keys := slices.Clone(ends)
		for _, i := range items[:min(len(items), 18)] {
			keys = append(keys, i.Key-1, i.Key, i.Key+1)
		}
		for _, next := range []api.Label{none, right} {
			r := api.Record{Kind: api.Leaf, Items: items, Next: next}
			for _, key := range keys {
				for _, val := range slices.Concat(vals, longVals) {
					holdWith(t, r, key, val)
				}
				holdWithout(t, r, key)
			}
		}
	}
}

func TestWithAtItsEdges(t *testing.T) {
	full, long := leaf(many(16, 0)...), longVals[0]
	split := api.Record{Kind: api.Split, Items: many(16, 0), Next: none}
	wrong := api.Record{Kind: api.Split, Items: many(17, 0), Next: none}
	for i, x := range []struct {
		r    api.Record
		key  uint64
		val  string
		want api.Errno
	}{
		{full, 16, "", api.ErrFull},
		{full, greatest, vals[7], api.ErrFull},
		{full, 15, vals[7], api.OK},
		{full, 0, "", api.OK},
		{leaf(many(15, 0)...), 99, "", api.OK},
		{full, 16, long, api.ErrLimit},
		{full, 0, long, api.ErrLimit},
		{leaf(), 0, long, api.ErrLimit},
		{split, 0, "", api.ErrKind},
		{split, 99, long, api.ErrKind},
		{api.Record{Kind: api.Frozen, Next: none, Mark: 1}, 99, "", api.ErrKind},
		{api.Record{Kind: api.Inner, Next: none}, 99, long, api.ErrKind},
		{api.Record{Kind: api.Merge, Next: none}, 99, "", api.ErrKind},
		{wrong, 99, long, api.ErrArg},
		{leaf(many(17, 0)...), 0, "", api.ErrArg},
		{api.Record{}, 0, "", api.ErrArg},
		{api.Record{Kind: api.Leaf, Next: none, Mark: 1}, 0, "", api.ErrArg},
	} {
		if _, e := record.With(x.r, x.key, x.val); e != x.want {
			t.Errorf("P8.4: %d: With: %d, want %d", i, e, x.want)
		}
		holdWith(t, x.r, x.key, x.val)
	}
	r := api.Record{Kind: api.Leaf, Items: []api.Item{item(3, "a"), item(7, "b")}, Next: right}
	for key, want := range map[uint64][]api.Item{
		0: {item(0, "new"), item(3, "a"), item(7, "b")},
		3: {item(3, "new"), item(7, "b")},
		5: {item(3, "a"), item(5, "new"), item(7, "b")},
		7: {item(3, "a"), item(7, "new")},
		9: {item(3, "a"), item(7, "b"), item(9, "new")},
	} {
		if got, e := record.With(r, key, "new"); e != api.OK || !same(got, api.Record{Kind: api.Leaf, Items: want, Next: right}) {
			t.Errorf("P8.4: With of %d: %v, %d", key, got, e)
		}
	}
}

// TestWithout is of all kinds: none but a wrong one is refused, though most of them have no items.
func TestWithout(t *testing.T) {
	for _, r := range rights() {
		for _, i := range r.Items {
			holdWithout(t, r, i.Key)
		}
		holdWithout(t, r, 4)
		holdWithout(t, r, greatest)
	}
	r := api.Record{Kind: api.Frozen, Items: row(3, 5, 7), Next: right, Mark: 9}
	for key, want := range map[uint64][]api.Item{3: r.Items[1:], 5: {r.Items[0], r.Items[2]}, 7: r.Items[:2]} {
		if got, ok := record.Without(r, key); !ok || !same(got, api.Record{Kind: api.Frozen, Items: want, Next: right, Mark: 9}) {
			t.Errorf("P8.4: Without %d: %v, %t", key, got, ok)
		}
	}
	for _, wrong := range []api.Record{{}, {Kind: 6, Items: row(5)}, leaf(row(5, 5)...), leaf(many(17, 0)...), leaf(row(9, 5)...), {Kind: api.Leaf, Items: row(5), Mark: 1}, {Kind: api.Inner, Items: row(5), Next: none}} {
		if got, ok := record.Without(wrong, 5); ok || !same(got, wrong) {
			t.Errorf("P8.4: Without of a wrong one: %s, %t", short(got), ok)
		}
	}
}

func halfLabels() []api.Label {
	list := slices.Concat(nexts, wrongNexts)
	for n := range 65 {
		list = append(list, api.Label{Len: n}, api.Label{Len: n, Bits: ^(uint64(greatest) >> n)})
	}
	return list
}

func TestHalves(t *testing.T) {
	for _, kind := range []int{api.Leaf, api.Split} {
		for _, items := range slices.Concat(rightRows(), wrongRows()) {
			for _, next := range []api.Label{none, root, right} {
				for _, l := range halfLabels() {
					holdHalves(t, api.Record{Kind: kind, Items: items, Next: next}, l)
				}
			}
		}
	}
}

// TestHalvesOfEachLabel has the keys at the ends of a label, of both its halves, and just outside.
func TestHalvesOfEachLabel(t *testing.T) {
	source := rand.New(rand.NewSource(2))
	for n := range 65 {
		for range 4 {
			l := api.Label{Len: n, Bits: source.Uint64() >> (64 - n) << (64 - n)}
			least, most := l.Bits, l.Bits|^uint64(0)>>n
			mid := least + (most-least)/2
			in := inOrder(map[uint64]string{least: "a", mid: "b", most: "d"})
			if mid < most {
				in = inOrder(map[uint64]string{least: "a", mid: "b", mid + 1: "c", most: "d"})
			}
			holdHalves(t, leaf(in...), l)
			for _, key := range []uint64{least - 1, most + 1} {
				all := byKey(in)
				all[key] = "outside"
				holdHalves(t, leaf(inOrder(all)...), l)
				holdHalves(t, leaf(item(key, "outside")), l)
			}
		}
	}
}

func TestHalvesAtTheirEdges(t *testing.T) {
	own := api.Label{Len: 64, Bits: 7}
	frozen := api.Record{Kind: api.Frozen, Items: row(7), Next: none}
	inner := api.Record{Kind: api.Inner, Next: none}
	for i, x := range []struct {
		r    api.Record
		l    api.Label
		want api.Errno
	}{
		{leaf(), root, api.OK},
		{leaf(spread()...), root, api.OK},
		{leaf(item(6, ""), item(7, "")), api.Label{Len: 63, Bits: 6}, api.OK},
		{leaf(item(7, "")), own, api.ErrRange},
		{leaf(), own, api.ErrRange},
		{api.Record{Kind: api.Split, Next: none}, own, api.ErrRange},
		{leaf(item(8, "")), own, api.ErrArg},
		{leaf(item(1<<63, "")), left, api.ErrArg},
		{leaf(item(1<<63-1, "")), left, api.OK},
		{leaf(item(0, ""), item(1<<63, "")), right, api.ErrArg},
		{frozen, root, api.ErrKind},
		{frozen, own, api.ErrKind},
		{frozen, right, api.ErrArg},
		{inner, root, api.ErrKind},
		{inner, own, api.ErrKind},
		{inner, none, api.ErrArg},
		{api.Record{Kind: api.Merge, Next: none}, root, api.ErrKind},
		{leaf(), none, api.ErrArg},
		{leaf(), api.Label{Len: 65}, api.ErrArg},
		{leaf(), api.Label{Len: 1, Bits: 1}, api.ErrArg},
		{leaf(many(17, 0)...), root, api.ErrArg},
		{api.Record{Kind: api.Frozen, Next: none, Items: row(5, 5)}, own, api.ErrArg},
		{api.Record{}, root, api.ErrArg},
	} {
		if _, _, e := record.Halves(x.r, x.l); e != x.want {
			t.Errorf("P8.5: %d: Halves: %d, want %d", i, e, x.want)
		}
		holdHalves(t, x.r, x.l)
	}
	r := api.Record{Kind: api.Split, Items: row(0, 1<<63-1, 1<<63, greatest), Next: right}
	a, b, e := record.Halves(r, root)
	if e != api.OK || !same(a, api.Record{Kind: api.Leaf, Items: r.Items[:2], Next: right}) || !same(b, api.Record{Kind: api.Leaf, Items: r.Items[2:], Next: right}) {
		t.Errorf("P8.5: Halves: %v, %v, %d", a, b, e)
	}
}

func TestUnion(t *testing.T) {
	rows := slices.Concat(rightRows()[:16], wrongRows()[:8], [][]api.Item{many(1, 16), many(2, 16), many(8, 0), many(8, 8), many(9, 8), many(8, 7)})
	for _, x := range rows {
		for _, y := range rows {
			for _, next := range []api.Label{none, root, right, {Len: 1, Bits: 1}} {
				holdUnion(t, leaf(x...), api.Record{Kind: api.Leaf, Items: y, Next: next})
				holdUnion(t, api.Record{Kind: api.Frozen, Items: x, Next: next, Mark: 5}, api.Record{Kind: api.Frozen, Items: y, Next: none, Mark: greatest})
			}
		}
	}
}

func TestUnionAtItsEdges(t *testing.T) {
	frozen := func(items ...api.Item) api.Record {
		return api.Record{Kind: api.Frozen, Items: items, Next: left, Mark: 3}
	}
	inner, merge := api.Record{Kind: api.Inner, Next: none}, api.Record{Kind: api.Merge, Next: none}
	split := api.Record{Kind: api.Split, Items: many(16, 100), Next: none}
	for i, x := range []struct {
		a, b api.Record
		want api.Errno
	}{
		{leaf(), leaf(), api.OK},
		{leaf(), frozen(), api.OK},
		{frozen(many(8, 0)...), leaf(many(8, 8)...), api.OK},
		{leaf(many(8, 0)...), frozen(many(9, 8)...), api.ErrFull},
		{leaf(many(16, 0)...), leaf(), api.OK},
		{leaf(), leaf(many(16, 0)...), api.OK},
		{leaf(many(16, 0)...), leaf(item(16, "")), api.ErrFull},
		{leaf(item(0, "")), leaf(item(greatest, "")), api.OK},
		{leaf(item(greatest, "")), leaf(item(0, "")), api.ErrArg},
		{leaf(item(5, "")), leaf(item(5, "")), api.ErrArg},
		{leaf(row(1, 9)...), leaf(row(5, 10)...), api.ErrArg},
		{leaf(row(1, 2, 9)...), leaf(row(3, 9)...), api.ErrArg},
		{leaf(many(16, 0)...), leaf(item(15, "")), api.ErrArg},
		{split, leaf(item(0, "")), api.ErrArg},
		{leaf(item(100, "")), split, api.ErrArg},
		{split, leaf(item(200, "")), api.ErrKind},
		{leaf(item(0, "")), split, api.ErrKind},
		{inner, leaf(), api.ErrKind},
		{leaf(), merge, api.ErrKind},
		{merge, inner, api.ErrKind},
		{inner, leaf(many(17, 0)...), api.ErrArg},
		{leaf(many(17, 0)...), split, api.ErrArg},
		{api.Record{}, leaf(), api.ErrArg},
		{leaf(), api.Record{}, api.ErrArg},
	} {
		if _, e := record.Union(x.a, x.b); e != x.want {
			t.Errorf("P8.5: %d: Union: %d, want %d", i, e, x.want)
		}
		holdUnion(t, x.a, x.b)
	}
	u, e := record.Union(leaf(item(1, "a")), frozen(item(2, "b")))
	if e != api.OK || !same(u, api.Record{Kind: api.Leaf, Items: []api.Item{item(1, "a"), item(2, "b")}, Next: left}) {
		t.Errorf("P8.5: Union: %v, %d", u, e)
	}
}

// TestAnyRecords gives each call records that are wrong in several ways at once: none panics, and the first error is told.
func TestAnyRecords(t *testing.T) {
	for _, r := range anyRecords() {
		holdIs(t, r)
		holdPut(t, r)
		for _, key := range []uint64{0, 5, 6, 1 << 63, greatest} {
			holdFind(t, r, key)
			holdWithout(t, r, key)
			holdWith(t, r, key, "new")
			holdWith(t, r, key, longVals[0])
		}
		for _, l := range []api.Label{root, left, right, none, {Len: 63, Bits: 4}, {Len: 64, Bits: 5}, {Len: 64, Bits: greatest}, {Len: 65}, {Len: 1, Bits: 1}, {Len: math.MinInt, Bits: greatest}} {
			holdHalves(t, r, l)
		}
		if t.Failed() {
			t.Fatalf("of %s", short(r))
		}
	}
}

func TestAnyUnions(t *testing.T) {
	var list []api.Record
	for i, r := range anyRecords() {
		if i%13 == 0 {
			list = append(list, r)
		}
	}
	for _, a := range list {
		for _, b := range list {
			holdUnion(t, a, b)
		}
		if t.Failed() {
			t.Fatalf("of %s", short(a))
		}
	}
}

// TestWhatWasToldStays keeps records that were told, while others are made of them.
func TestWhatWasToldStays(t *testing.T) {
	source := rand.New(rand.NewSource(3))
	for range 50 {
		r := leaf()
		var told, kept []api.Record
		keep := func(r api.Record) {
			told = append(told, r)
			r.Items = slices.Clone(r.Items)
			kept = append(kept, r)
		}
		for range 60 {
			keep(r)
			key := source.Uint64() % 24 << 59
			if source.Intn(3) > 0 {
				if more, e := record.With(r, key, anyVal(source)); e == api.OK {
					r = more
				}
			} else {
				r, _ = record.Without(r, key)
			}
			a, b, _ := record.Halves(r, root)
			u, _ := record.Union(a, b)
			keep(a)
			keep(b)
			keep(u)
		}
		for i := range told {
			if !same(told[i], kept[i]) {
				t.Fatalf("R2: record %d was %s, is %s", i, short(kept[i]), short(told[i]))
			}
		}
	}
}

func TestWhatIsPutIsGot(t *testing.T) {
	source := rand.New(rand.NewSource(4))
	for range 5000 {
		r := anyRight(source)
		s, e := record.Put(r)
		got, f := record.Get(s)
		if e != api.OK || f != api.OK || !same(got, r) {
			t.Errorf("P8.6: put %s, %d, got %s, %d", short(r), e, short(got), f)
		}
	}
}

// TestHalvesAreTheLeafAgain has keys by chance that a label covers, and takes the halves apart as long as there are any.
func TestHalvesAreTheLeafAgain(t *testing.T) {
	source := rand.New(rand.NewSource(5))
	for range 3000 {
		r := anyRight(source)
		r.Kind, r.Mark = api.Leaf, 0
		l := anyLabel(source)
		for i := range r.Items {
			r.Items[i].Key = r.Items[i].Key>>l.Len | l.Bits
		}
		r.Items = inOrder(byKey(r.Items))
		a, b, e := record.Halves(r, l)
		if l.Len == 64 {
			if e != api.ErrRange {
				t.Errorf("P8.5: Halves of %v: %d", l, e)
			}
			continue
		}
		u, f := record.Union(a, b)
		if e != api.OK || f != api.OK || !same(u, r) {
			t.Errorf("P8.6: of %v: %s is taken apart, %d, and is %s, %d", l, short(r), e, short(u), f)
		}
		if !slices.Equal(slices.Concat(a.Items, b.Items), r.Items) || !record.Is(a) || !record.Is(b) {
			t.Errorf("P8.6: of %v: %s has the halves %s and %s", l, short(r), short(a), short(b))
		}
	}
}

// TestNoOtherKeyIsTurned holds a leaf against a map, step by step.
func TestNoOtherKeyIsTurned(t *testing.T) {
	source := rand.New(rand.NewSource(6))
	for range 100 {
		r, all := leaf(), map[uint64]string{}
		for range 100 {
			key := ends[source.Intn(len(ends))] + source.Uint64()%3
			if val := anyVal(source); source.Intn(3) > 0 {
				_, has := all[key]
				more, e := record.With(r, key, val)
				if full := !has && len(all) == 16; full != (e == api.ErrFull) || !full && e != api.OK {
					t.Fatalf("P8.4: With(%s, %d): %d", short(r), key, e)
				}
				if e == api.OK {
					r, all[key] = more, val
				}
			} else {
				_, has := all[key]
				less, ok := record.Without(r, key)
				if ok != has {
					t.Fatalf("P8.4: Without(%s, %d): %t", short(r), key, ok)
				}
				delete(all, key)
				r = less
			}
			for _, key := range ends {
				val, has := all[key]
				if gotVal, gotHas := record.Find(r, key); gotVal != val || gotHas != has {
					t.Fatalf("P8.6: of %d: %q, %t, want %q, %t", key, gotVal, gotHas, val, has)
				}
			}
			if !same(r, leaf(inOrder(all)...)) || !record.Is(r) {
				t.Fatalf("P8.6: %s, want %v", short(r), all)
			}
		}
	}
}

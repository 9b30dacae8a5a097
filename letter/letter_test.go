package letter_test

import (
	"fmt"
	"math"
	"math/big"
	"math/rand"
	"slices"
	"strings"
	"testing"

	"espalier/api"
	"espalier/letter"
)

const greatest = math.MaxUint64

var (
	none = api.Peer{Addr: -1}
	zero = api.ID{}
	one  = api.ID{19: 1}
	last = api.ID([]byte(strings.Repeat("\xff", 20)))
	from = at(5, zero)
)

var kinds = []int{api.Find, api.Found, api.Ask, api.Told, api.Notify, api.Ping, api.Pong, api.Bye}

// wrongKinds are none, though some are one if only their lowest bits are taken.
var wrongKinds = []int{0, 9, 10, -1, -2, -8, math.MinInt, math.MinInt + 1, 1<<8 + 1, 1<<16 + 5, 1<<32 + 1, 1<<32 + 8, -1<<32 + 6, 1<<62 + 3, math.MaxInt}

// addrs may be, wrongAddrs may not: some may if only their lowest bits are taken.
var (
	addrs      = []int{0, 1, 255, 256, 998, 999}
	wrongAddrs = []int{-1, -2, -5, 1000, 1001, 1063, 1 << 16, 1<<16 + 5, math.MinInt, math.MinInt + 1, math.MinInt32, math.MaxInt32, 1 << 32, 1<<32 + 5, -1<<32 + 5, 1<<62 + 1, math.MaxInt}
)

var places = []api.ID{zero, one, {0: 128}, {10: 7, 19: 255}, last}

var reqs = []uint64{0, 1, 255, 256, 1<<63 - 1, 1 << 63, greatest}

// A kind's parts, in the order of the chapter's table.
var table = map[int][]string{
	api.Find:   {"Req", "ID", "Avoid"},
	api.Found:  {"Req", "Done", "Peer"},
	api.Ask:    {"Req"},
	api.Told:   {"Req", "Peer", "Peers"},
	api.Notify: nil,
	api.Ping:   {"Req"},
	api.Pong:   {"Req"},
	api.Bye:    {"Peer", "Peers"},
}

func has(kind int, what string) bool { return slices.Contains(table[kind], what) }

func at(addr int, id api.ID) api.Peer { return api.Peer{Addr: addr, ID: id} }

// bare is a letter of a kind with as little as that one may have.
func bare(kind int) api.Letter {
	l := api.Letter{Kind: kind, From: from, Peer: none}
	if kind == api.Found {
		l.Peer = at(0, zero)
	}
	return l
}

// full is a letter of a kind with all that it may have, but for rows of two alone, so that its bytes stay few.
func full(kind int) api.Letter {
	l := api.Letter{Kind: kind, From: at(999, last), Peer: none}
	if has(kind, "Req") {
		l.Req = greatest
	}
	if has(kind, "ID") {
		l.ID = last
	}
	if has(kind, "Avoid") {
		l.Avoid = []int{7, 999}
	}
	if has(kind, "Done") {
		l.Done = true
	}
	if has(kind, "Peer") {
		l.Peer = at(258, one)
	}
	if has(kind, "Peers") {
		l.Peers = []api.Peer{at(0, last), at(999, zero)}
	}
	return l
}

// numbers are n addresses that do not rise, one of them twice.
func numbers(n int) []int {
	row := []int{}
	for i := range n {
		row = append(row, (999-i*389%1000+1000)%1000)
	}
	if n > 1 {
		row[n-1] = row[0]
	}
	return row
}

func peers(n int) []api.Peer {
	row := []api.Peer{}
	for i, addr := range numbers(n) {
		row = append(row, at(addr, api.ID{0: byte(200 - i), 19: byte(i)}))
	}
	return row
}

// The tests hold what is told against rules of their own.

func isAddr(addr int) bool { return addr > -1 && addr < 1000 }

// isRight goes through the parts by what they are in the chapter's words.
func isRight(l api.Letter) bool {
	ok := slices.Contains(kinds, l.Kind) && isAddr(l.From.Addr) && len(l.Avoid) <= 16 && len(l.Peers) <= 8
	for _, addr := range l.Avoid {
		ok = ok && isAddr(addr)
	}
	for _, p := range l.Peers {
		ok = ok && isAddr(p.Addr)
	}
	if l.Peer == none {
		ok = ok && l.Kind != api.Found
	} else {
		ok = ok && isAddr(l.Peer.Addr)
	}
	for what, is := range map[string]bool{"Req": l.Req > 0, "ID": l.ID != zero, "Avoid": len(l.Avoid) > 0, "Done": l.Done, "Peer": l.Peer != none, "Peers": len(l.Peers) > 0} {
		ok = ok && (!is || has(l.Kind, what))
	}
	return ok
}

func same(a, b api.Letter) bool {
	return a.Kind == b.Kind && a.From == b.From && a.Req == b.Req && a.ID == b.ID && slices.Equal(a.Avoid, b.Avoid) && a.Done == b.Done && a.Peer == b.Peer && slices.Equal(a.Peers, b.Peers)
}

func empty(l api.Letter) bool {
	return same(l, api.Letter{}) && l.Avoid == nil && l.Peers == nil
}

// short tells a letter in few bytes.
func short(l api.Letter) string { return fmt.Sprintf("%.300s", fmt.Sprintf("%+v", l)) }

func numberBytes(v uint64) string {
	digits := new(big.Int).SetUint64(v).Bytes()
	return string([]byte{byte(len(digits))}) + string(digits)
}

// A piece of a letter's bytes is one number, or one place.
type piece struct{ what, bytes string }

type pieces []piece

func (l *pieces) number(what string, v uint64) { *l = append(*l, piece{what, numberBytes(v)}) }

func (l *pieces) place(id api.ID) { *l = append(*l, piece{"place", string(id[:])}) }

func (l *pieces) peer(p api.Peer) {
	l.number("Addr", uint64(p.Addr))
	l.place(p.ID)
}

func (l *pieces) whether(what string, is bool) {
	v := uint64(0)
	if is {
		v = 1
	}
	l.number(what, v)
}

func piecesOf(l api.Letter) pieces {
	var list pieces
	list.number("Kind", uint64(l.Kind))
	list.peer(l.From)
	for _, what := range table[l.Kind] {
		switch what {
		case "Req":
			list.number("Req", l.Req)
		case "ID":
			list.place(l.ID)
		case "Avoid":
			list.number("size of Avoid", uint64(len(l.Avoid)))
			for _, addr := range l.Avoid {
				list.number("Addr", uint64(addr))
			}
		case "Done":
			list.whether("Done", l.Done)
		case "Peer":
			if l.Kind == api.Found {
				list.whether("whether, of Found", true)
			} else {
				list.whether("whether", l.Peer != none)
			}
			if l.Peer != none {
				list.peer(l.Peer)
			}
		case "Peers":
			list.number("size of Peers", uint64(len(l.Peers)))
			for _, p := range l.Peers {
				list.peer(p)
			}
		}
	}
	return list
}

func joined(list pieces) string {
	var b strings.Builder
	for _, p := range list {
		b.WriteString(p.bytes)
	}
	return b.String()
}

func bytesOf(l api.Letter) string { return joined(piecesOf(l)) }

// A letter that is lent has its rows in the midst of greater ones, with others around that nobody may write to, and is as it was when it comes back.
type lent struct {
	l                api.Letter
	avoid, avoidKept []int
	peers, peersKept []api.Peer
}

func lend(l api.Letter) *lent {
	given := &lent{avoid: amidst(l.Avoid, 77), peers: amidst(l.Peers, at(77, last))}
	given.avoidKept, given.peersKept = slices.Clone(given.avoid), slices.Clone(given.peers)
	if l.Avoid != nil {
		l.Avoid = given.avoid[1 : 1+len(l.Avoid)]
	}
	if l.Peers != nil {
		l.Peers = given.peers[1 : 1+len(l.Peers)]
	}
	given.l = l
	return given
}

func amidst[T any](row []T, stop T) []T {
	return slices.Concat([]T{stop}, row, []T{stop, stop, stop})
}

func (g *lent) back(t *testing.T, call string) {
	t.Helper()
	if !slices.Equal(g.avoid, g.avoidKept) || !slices.Equal(g.peers, g.peersKept) {
		t.Errorf("R2: %s wrote to the letter that came in: %s", call, short(g.l))
	}
}

// spoil writes to what was told, and behind it: nothing else has that memory.
func spoil(l api.Letter) {
	for i := range l.Avoid {
		l.Avoid[i] = 666
	}
	for i := range l.Peers {
		l.Peers[i] = at(666, one)
	}
	_ = append(l.Avoid, 666)
	_ = append(l.Peers, at(666, one))
}

// hold asks Is and Put of a letter: if it is right, what is put is got.
func hold(t *testing.T, l api.Letter) {
	t.Helper()
	right := isRight(l)
	given := lend(l)
	if got := letter.Is(given.l); got != right {
		t.Errorf("P14.1: Is(%s): %t", short(l), got)
	}
	given.back(t, "Is")
	want, code := "", api.ErrArg
	if right {
		want, code = bytesOf(l), api.OK
	}
	for range 2 {
		if got, e := letter.Put(given.l); got != want || e != code {
			t.Errorf("P14.1: Put(%s): %q, %d, want %q, %d", short(l), got, e, want, code)
		}
	}
	given.back(t, "Put")
	if right {
		holdGet(t, want, l)
	}
}

func holdRight(t *testing.T, l api.Letter) {
	t.Helper()
	if !letter.Is(l) {
		t.Errorf("P14.1: Is(%s): false", short(l))
	}
	hold(t, l)
}

func holdWrong(t *testing.T, l api.Letter) {
	t.Helper()
	if letter.Is(l) {
		t.Errorf("P14.1: Is(%s): true", short(l))
	}
	if s, e := letter.Put(l); s != "" || e != api.ErrArg {
		t.Errorf("P14.1: Put(%s): %q, %d", short(l), s, e)
	}
	hold(t, l)
}

// holdGet asks twice, with what was told first spoilt between.
func holdGet(t *testing.T, s string, want api.Letter) {
	t.Helper()
	for range 2 {
		got, e := letter.Get(s)
		if !same(got, want) || e != api.OK {
			t.Errorf("P14.2: Get(%q): %s, %d, want %s", s, short(got), e, short(want))
		}
		spoil(got)
	}
}

func holdBad(t *testing.T, s string, want api.Errno) {
	t.Helper()
	if got, e := letter.Get(s); !empty(got) || e != want {
		t.Errorf("P14.2: Get(%.300q): %s, %d, want nothing, %d", s, short(got), e, want)
	}
}

func TestTheChaptersExample(t *testing.T) {
	ping := api.Letter{Kind: api.Ping, From: at(5, zero), Req: 7, Peer: none}
	s := "\x01\x06\x01\x05" + strings.Repeat("\x00", 20) + "\x01\x07"
	if got, e := letter.Put(ping); got != s || e != api.OK {
		t.Errorf("P14.1: Put(%s): %q, %d", short(ping), got, e)
	}
	holdRight(t, ping)
	holdGet(t, s, ping)
}

// TestKnownBytes is of each kind, by bytes that are written out.
func TestKnownBytes(t *testing.T) {
	noughts := strings.Repeat("\x00", 20)
	ones := strings.Repeat("\xff", 20)
	first := strings.Repeat("\x00", 19) + "\x01"
	for s, l := range map[string]api.Letter{
		"\x01\x01" + "\x00" + ones + "\x00" + first + "\x00":                                                                                        {Kind: api.Find, From: at(0, last), ID: one, Peer: none},
		"\x01\x01" + "\x01\x05" + noughts + "\x02\x01\x00" + ones + "\x01\x03" + "\x01\x09" + "\x00" + "\x02\x03\xe7":                               {Kind: api.Find, From: from, Req: 256, ID: last, Avoid: []int{9, 0, 999}, Peer: none},
		"\x01\x02" + "\x01\x05" + noughts + "\x00" + "\x00" + "\x01\x01" + "\x00" + noughts:                                                         {Kind: api.Found, From: from},
		"\x01\x02" + "\x02\x03\xe7" + ones + "\x01\x01" + "\x01\x01" + "\x01\x01" + "\x02\x01\x02" + first:                                          {Kind: api.Found, From: at(999, last), Req: 1, Done: true, Peer: at(258, one)},
		"\x01\x03" + "\x01\x05" + noughts + "\x00":                                                                                                  {Kind: api.Ask, From: from, Peer: none},
		"\x01\x03" + "\x01\x05" + noughts + "\x08\xff\xff\xff\xff\xff\xff\xff\xff":                                                                  {Kind: api.Ask, From: from, Req: greatest, Peer: none},
		"\x01\x04" + "\x01\x05" + noughts + "\x00" + "\x00" + "\x00":                                                                                {Kind: api.Told, From: from, Peer: none},
		"\x01\x04" + "\x01\x05" + noughts + "\x01\x01" + "\x01\x01" + "\x00" + ones + "\x01\x02" + "\x01\x07" + first + "\x00" + noughts:            {Kind: api.Told, From: from, Req: 1, Peer: at(0, last), Peers: []api.Peer{at(7, one), at(0, zero)}},
		"\x01\x05" + "\x01\x05" + noughts:                                                                                                           {Kind: api.Notify, From: from, Peer: none},
		"\x01\x06" + "\x01\x05" + first + "\x01\x02":                                                                                                {Kind: api.Ping, From: at(5, one), Req: 2, Peer: none},
		"\x01\x07" + "\x01\x05" + first + "\x01\x02":                                                                                                {Kind: api.Pong, From: at(5, one), Req: 2, Peer: none},
		"\x01\x08" + "\x01\x05" + noughts + "\x00" + "\x00":                                                                                         {Kind: api.Bye, From: from, Peer: none},
		"\x01\x08" + "\x01\x05" + noughts + "\x00" + "\x01\x01" + "\x02\x03\xe7" + ones:                                                             {Kind: api.Bye, From: from, Peer: none, Peers: []api.Peer{at(999, last)}},
		"\x01\x08" + "\x01\x05" + noughts + "\x01\x01" + "\x01\x05" + noughts + "\x01\x02" + "\x01\x05" + noughts + "\x01\x05" + noughts:            {Kind: api.Bye, From: from, Peer: from, Peers: []api.Peer{from, from}},
		"\x01\x04" + "\x02\x01\x00" + noughts + "\x00" + "\x00" + "\x01\x08" + strings.Repeat("\x00"+ones, 8):                                       {Kind: api.Told, From: at(256, zero), Peer: none, Peers: slices.Repeat([]api.Peer{at(0, last)}, 8)},
		"\x01\x01" + "\x01\xff" + noughts + "\x00" + noughts + "\x01\x10" + strings.Repeat("\x02\x03\xe7", 16):                                      {Kind: api.Find, From: at(255, zero), Avoid: slices.Repeat([]int{999}, 16), Peer: none},
		"\x01\x08" + "\x00" + noughts + "\x01\x01" + "\x02\x03\xe7" + noughts + "\x01\x02" + "\x01\x01" + ones + "\x01\x02" + noughts[:19] + "\x01": {Kind: api.Bye, From: at(0, zero), Peer: at(999, zero), Peers: []api.Peer{at(1, last), at(2, one)}},
	} {
		if got, e := letter.Put(l); got != s || e != api.OK {
			t.Errorf("P14.1: Put(%s): %q, %d, want %q", short(l), got, e, s)
		}
		holdRight(t, l)
		holdGet(t, s, l)
	}
}

// TestRightLetters has each kind with each thing that its parts may be.
func TestRightLetters(t *testing.T) {
	for _, kind := range kinds {
		l := bare(kind)
		for _, addr := range addrs {
			for _, id := range places {
				l.From = at(addr, id)
				holdRight(t, l)
			}
		}
		for _, l := range rightParts(kind) {
			holdRight(t, l)
		}
	}
}

// rightParts are letters of a kind, with each part that it has varied in all ways beside the others.
func rightParts(kind int) []api.Letter {
	list := []api.Letter{bare(kind), full(kind)}
	vary := func(what string, turns ...func(l *api.Letter)) {
		if !has(kind, what) {
			return
		}
		for _, l := range list {
			for _, turn := range turns {
				turn(&l)
				list = append(list, l)
			}
		}
	}
	vary("Req", func(l *api.Letter) { l.Req = 0 }, func(l *api.Letter) { l.Req = 1 }, func(l *api.Letter) { l.Req = 1 << 63 }, func(l *api.Letter) { l.Req = greatest })
	vary("ID", func(l *api.Letter) { l.ID = zero }, func(l *api.Letter) { l.ID = one }, func(l *api.Letter) { l.ID = last })
	vary("Avoid", func(l *api.Letter) { l.Avoid = nil }, func(l *api.Letter) { l.Avoid = []int{} }, func(l *api.Letter) { l.Avoid = []int{0} }, func(l *api.Letter) { l.Avoid = numbers(16) })
	vary("Done", func(l *api.Letter) { l.Done = false }, func(l *api.Letter) { l.Done = true })
	if kind != api.Found {
		vary("Peer", func(l *api.Letter) { l.Peer = none })
	}
	vary("Peer", func(l *api.Letter) { l.Peer = api.Peer{} }, func(l *api.Letter) { l.Peer = at(999, last) }, func(l *api.Letter) { l.Peer = l.From })
	vary("Peers", func(l *api.Letter) { l.Peers = nil }, func(l *api.Letter) { l.Peers = []api.Peer{} }, func(l *api.Letter) { l.Peers = []api.Peer{{}} }, func(l *api.Letter) { l.Peers = peers(8) })
	return list
}

func TestReqs(t *testing.T) {
	for _, kind := range kinds {
		for _, req := range reqs {
			l := bare(kind)
			l.Req = req
			if req == 0 || has(kind, "Req") {
				holdRight(t, l)
			} else {
				holdWrong(t, l)
			}
		}
	}
}

func TestPlaces(t *testing.T) {
	for _, id := range places {
		l := bare(api.Find)
		l.ID = id
		holdRight(t, l)
		for _, kind := range []int{api.Found, api.Told, api.Bye} {
			l := full(kind)
			l.Peer.ID = id
			holdRight(t, l)
			for i := range l.Peers {
				l.Peers[i].ID = id
				holdRight(t, l)
			}
		}
	}
}

func TestWrongKinds(t *testing.T) {
	for _, kind := range wrongKinds {
		holdWrong(t, bare(kind))
		for _, like := range kinds {
			l := full(like)
			l.Kind = kind
			holdWrong(t, l)
		}
	}
	holdWrong(t, api.Letter{})
}

func TestAddrs(t *testing.T) {
	for _, addr := range slices.Concat(addrs, wrongAddrs) {
		holdAddr := holdRight
		if slices.Contains(wrongAddrs, addr) {
			holdAddr = holdWrong
		}
		for _, kind := range kinds {
			for _, id := range []api.ID{zero, last} {
				for _, l := range []api.Letter{bare(kind), full(kind)} {
					l.From = at(addr, id)
					holdAddr(t, l)
				}
			}
		}
		for _, n := range []int{1, 2, 15, 16} {
			for i := range n {
				l := bare(api.Find)
				l.Avoid = numbers(n)
				l.Avoid[i] = addr
				holdAddr(t, l)
			}
		}
		for _, kind := range []int{api.Told, api.Bye} {
			for _, n := range []int{1, 2, 7, 8} {
				for i := range n {
					l := bare(kind)
					l.Peers = peers(n)
					l.Peers[i].Addr = addr
					holdAddr(t, l)
				}
			}
		}
		for _, kind := range []int{api.Found, api.Told, api.Bye} {
			l := full(kind)
			l.Peer = at(addr, one)
			holdAddr(t, l)
		}
	}
}

// TestNoPeer is of None(), and of what is it but for one thing.
func TestNoPeer(t *testing.T) {
	for _, kind := range kinds {
		l := full(kind)
		l.Peer = none
		if kind == api.Found {
			holdWrong(t, l)
		} else {
			holdRight(t, l)
		}
		for _, nearly := range []api.Peer{at(-1, one), at(-1, api.ID{1}), at(-1, api.ID{0: 128}), at(-1, api.ID{9: 1}), at(-1, last), at(-2, zero), at(1000, zero), at(math.MinInt, zero), at(math.MaxInt, zero), at(math.MaxUint32, zero)} {
			l.Peer = nearly
			holdWrong(t, l)
		}
		l.Peer = at(0, zero)
		if has(kind, "Peer") {
			holdRight(t, l)
		} else {
			holdWrong(t, l)
		}
		if has(kind, "Peers") {
			l := full(kind)
			l.Peers[1] = none
			holdWrong(t, l)
		}
		l = full(kind)
		l.From = none
		holdWrong(t, l)
	}
}

func TestSizes(t *testing.T) {
	for n := range 20 {
		find := bare(api.Find)
		find.Avoid = numbers(n)
		if n <= 16 {
			holdRight(t, find)
		} else {
			holdWrong(t, find)
		}
		for _, kind := range []int{api.Told, api.Bye} {
			l := bare(kind)
			l.Peers = peers(n)
			if n <= 8 {
				holdRight(t, l)
			} else {
				holdWrong(t, l)
			}
		}
	}
	for _, n := range []int{32, 256, 257, 1000, 1 << 16} {
		holdWrong(t, api.Letter{Kind: api.Find, From: from, Peer: none, Avoid: make([]int, n)})
		holdWrong(t, api.Letter{Kind: api.Told, From: from, Peer: none, Peers: make([]api.Peer, n)})
	}
}

// TestRowsThatAreEmpty may be nil or not, of each kind.
func TestRowsThatAreEmpty(t *testing.T) {
	for _, kind := range kinds {
		l := bare(kind)
		for _, avoid := range [][]int{nil, {}} {
			for _, row := range [][]api.Peer{nil, {}} {
				l.Avoid, l.Peers = avoid, row
				holdRight(t, l)
			}
		}
	}
}

// TestPartsThatAKindHasNot turns each of them alone into what it may not be.
func TestPartsThatAKindHasNot(t *testing.T) {
	turns := map[string][]func(l *api.Letter){
		"Req":   {func(l *api.Letter) { l.Req = 1 }, func(l *api.Letter) { l.Req = 1 << 32 }, func(l *api.Letter) { l.Req = 1 << 63 }, func(l *api.Letter) { l.Req = greatest }},
		"ID":    {func(l *api.Letter) { l.ID = one }, func(l *api.Letter) { l.ID = api.ID{0: 1} }, func(l *api.Letter) { l.ID = last }},
		"Avoid": {func(l *api.Letter) { l.Avoid = []int{0} }, func(l *api.Letter) { l.Avoid = []int{-1} }, func(l *api.Letter) { l.Avoid = numbers(16) }},
		"Done":  {func(l *api.Letter) { l.Done = true }},
		"Peer":  {func(l *api.Letter) { l.Peer = api.Peer{} }, func(l *api.Letter) { l.Peer = l.From }, func(l *api.Letter) { l.Peer = at(999, last) }, func(l *api.Letter) { l.Peer = at(-1, one) }},
		"Peers": {func(l *api.Letter) { l.Peers = []api.Peer{{}} }, func(l *api.Letter) { l.Peers = []api.Peer{none} }, func(l *api.Letter) { l.Peers = peers(8) }},
	}
	n := 0
	for _, kind := range kinds {
		for what, ways := range turns {
			for _, turn := range ways {
				for _, l := range []api.Letter{bare(kind), full(kind)} {
					turn(&l)
					hold(t, l)
					if !has(kind, what) {
						holdWrong(t, l)
						n++
					}
				}
			}
		}
	}
	// Of 48 parts 34 are none of their kind's: 2 kinds have no Req, 7 no ID, 7 no Avoid, 7 no Done, 5 no Peer, 6 no Peers.
	if want := 2 * (2*4 + 7*3 + 7*3 + 7*1 + 5*4 + 6*3); n != want {
		t.Errorf("P14.1: %d parts that a kind has not, want %d", n, want)
	}
}

// cutLetters are of each kind, with each part that there is.
func cutLetters() []api.Letter {
	var list []api.Letter
	for _, kind := range kinds {
		list = append(list, bare(kind), full(kind))
	}
	find, told, bye := full(api.Find), full(api.Told), full(api.Bye)
	find.Avoid, told.Peers, bye.Peers = numbers(16), peers(8), peers(8)
	return append(list, find, told, bye)
}

func TestBytesCutShort(t *testing.T) {
	holdBad(t, "", api.ErrMore)
	for _, l := range cutLetters() {
		s := bytesOf(l)
		for n := range len(s) {
			holdBad(t, s[:n], api.ErrMore)
		}
		holdGet(t, s, l)
	}
}

func TestBytesLeft(t *testing.T) {
	for _, l := range cutLetters() {
		s := bytesOf(l)
		for b := range 256 {
			holdBad(t, s+string([]byte{byte(b)}), api.ErrForm)
		}
		for _, behind := range []string{"\x01\x02", "\x00\x00", s, strings.Repeat("\x00", 5000)} {
			holdBad(t, s+behind, api.ErrForm)
		}
	}
}

// TestEachByteChanged changes each byte of letters to each other one.
func TestEachByteChanged(t *testing.T) {
	for _, l := range cutLetters() {
		s := bytesOf(l)
		for i := range len(s) {
			for b := range 256 {
				holdAny(t, s[:i]+string([]byte{byte(b)})+s[i+1:])
			}
		}
	}
}

// wrongNumbers are no number's bytes, once all of them are there.
func wrongNumbers() []string {
	return []string{"\x09", "\x0a", "\x80", "\xff", "\x01\x00", "\x02\x00\x01", "\x02\x00\x06", "\x02\x00\xff", "\x08\x00\x01\x01\x01\x01\x01\x01\x01", "\x03\x00\x00\x00", "\x03\x00\x03\xe7"}
}

// wrongPieces are the forms of a piece that no letter has: each is to be told as soon as it is read.
func wrongPieces(what string) []string {
	if what == "place" {
		return nil
	}
	list := wrongNumbers()
	numbers := func(n ...uint64) {
		for _, v := range n {
			list = append(list, numberBytes(v))
		}
	}
	switch what {
	case "Kind":
		numbers(0, 9, 10, 255, 256, 257, 1<<16+1, 1<<32+1, 1<<32+6, 1<<63+5, greatest)
	case "Addr":
		numbers(1000, 1001, 1063, 1<<16, 1<<16+5, 1<<32, 1<<32+5, 1<<63, 1<<63+5, greatest-1, greatest)
	case "size of Avoid":
		numbers(17, 18, 255, 256, 257, 1<<32, 1<<32+1, 1<<63, 1<<63+16, greatest)
	case "size of Peers":
		numbers(9, 10, 16, 255, 256, 257, 1<<32, 1<<32+1, 1<<63, 1<<63+8, greatest)
	case "Done", "whether":
		numbers(2, 3, 255, 256, 257, 1<<32, 1<<32+1, 1<<63, greatest)
	case "whether, of Found":
		numbers(0, 2, 3, 255, 256, 257, 1<<32, 1<<32+1, 1<<63, greatest)
	}
	return list
}

// TestWrongPieces has a piece of a right letter turned into a wrong one: what was behind it is there, is cut off, or is something else.
func TestWrongPieces(t *testing.T) {
	seen := map[string]int{}
	for _, l := range cutLetters() {
		list := piecesOf(l)
		for i, p := range list {
			seen[p.what]++
			for _, wrong := range wrongPieces(p.what) {
				for _, behind := range []string{"", joined(list[i+1:]), "\x00", "\x09", strings.Repeat("\x01", 99), strings.Repeat("\xff", 5000)} {
					holdBad(t, joined(list[:i])+wrong+behind, api.ErrForm)
				}
			}
		}
	}
	if len(seen) != 9 {
		t.Errorf("P14.2: the pieces are %v", seen)
	}
}

// TestPiecesCutShort has a number begun that may not be there: as long as not all of it is, that can't be told.
func TestPiecesCutShort(t *testing.T) {
	for _, l := range cutLetters() {
		list := piecesOf(l)
		for i, p := range list {
			for _, wrong := range wrongPieces(p.what) {
				for n := range len(wrong) {
					holdBad(t, joined(list[:i])+wrong[:n], api.ErrMore)
				}
			}
		}
	}
}

// TestTheFirstWrongPartTells is of bytes that are wrong in two ways.
func TestTheFirstWrongPartTells(t *testing.T) {
	noughts := strings.Repeat("\x00", 20)
	find, found, told, bye := "\x01\x01\x00"+noughts, "\x01\x02\x00"+noughts, "\x01\x04\x00"+noughts, "\x01\x08\x00"+noughts
	notify, ping := "\x01\x05\x00"+noughts, "\x01\x06\x00"+noughts
	for s, want := range map[string]api.Errno{
		"\x02\x00":                                               api.ErrMore, // a kind that is cut short, ahead of its form
		"\x01\x09":                                               api.ErrForm, // no kind, with no From
		"\x01\x09" + "\x09":                                      api.ErrForm,
		"\x02\x01\x05\x00" + noughts:                             api.ErrForm, // the kind 261
		"\x01\x06\x02\x03\xe8":                                   api.ErrForm, // an Addr of 1000, with no place
		"\x01\x06\x02\x03":                                       api.ErrMore,
		"\x01\x06\x09":                                           api.ErrForm,
		"\x01\x06\x00" + noughts[:19]:                            api.ErrMore,
		notify[:len(notify)-1]:                                   api.ErrMore,
		notify + "\x09":                                          api.ErrForm, // of no number: it is left
		notify + "\x01":                                          api.ErrForm,
		ping + "\x01":                                            api.ErrMore,
		ping + "\x09" + "\x00":                                   api.ErrForm,
		ping + "\x02\x00":                                        api.ErrMore,
		ping + "\x02\x00\x01" + "\x00":                           api.ErrForm,
		find + "\x00" + noughts + "\x01\x11":                     api.ErrForm, // 17 numbers, of which none is there
		find + "\x00" + noughts + "\x01\x10":                     api.ErrMore,
		find + "\x00" + noughts + "\x01\x02\x02\x03\xe8":         api.ErrForm, // 1000, and no second one
		find + "\x00" + noughts + "\x01\x02\x02\x03\xe7":         api.ErrMore,
		find + "\x00" + noughts + "\x01\x02\x00\x02\x03\xe8":     api.ErrForm,
		find + "\x09" + noughts[:3]:                              api.ErrForm,
		found + "\x00\x01\x02":                                   api.ErrForm, // Done is 2, and there is no more
		found + "\x00\x01\x02" + "\x00":                          api.ErrForm,
		found + "\x00\x00\x00":                                   api.ErrForm, // no Peer: nothing is left, either
		found + "\x00\x00\x00" + "\x09":                          api.ErrForm,
		found + "\x00\x00\x01\x01":                               api.ErrMore,
		found + "\x00\x00\x01\x02":                               api.ErrForm,
		found + "\x00\x00\x01\x01\x02\x03\xe8":                   api.ErrForm,
		found + "\x00\x00\x01\x01\x00" + noughts + "\x00":        api.ErrForm,
		found + "\x00":                                           api.ErrMore,
		told + "\x00\x01\x02":                                    api.ErrForm,
		told + "\x00\x00":                                        api.ErrMore,
		told + "\x00\x00\x01\x09":                                api.ErrForm, // 9 peers, of which none is there
		told + "\x00\x00\x01\x08":                                api.ErrMore,
		told + "\x00\x00\x01\x02\x02\x03\xe8":                    api.ErrForm,
		told + "\x00\x00\x01\x02\x00" + noughts + "\x02\x03\xe8": api.ErrForm,
		told + "\x00\x00\x01\x02\x00" + noughts + "\x02\x03\xe7" + noughts[1:]: api.ErrMore,
		bye + "\x01\x02":             api.ErrForm,
		bye + "\x01\x01\x02\x03\xe8": api.ErrForm,
		bye + "\x01\x01\x02\x03\xe7": api.ErrMore,
		bye + "\x00\x01\x09":         api.ErrForm,
		bye + "\x00\x01\x01":         api.ErrMore,
		bye + "\x00\x00\x00":         api.ErrForm,
	} {
		holdBad(t, s, want)
	}
}

// A cursor reads bytes piece by piece, and stops at the first that is wrong.
type cursor struct {
	s    string
	code api.Errno
}

func (c *cursor) fail(code api.Errno) {
	if c.code == api.OK {
		c.code = code
	}
}

func (c *cursor) take(n uint64) string {
	if c.code != api.OK || n > uint64(len(c.s)) {
		c.fail(api.ErrMore)
		return ""
	}
	taken := c.s[:n]
	c.s = c.s[n:]
	return taken
}

// number reads one of least to most.
func (c *cursor) number(least, most uint64) uint64 {
	first := c.take(1)
	if first > "\x08" {
		c.fail(api.ErrForm)
	}
	if c.code != api.OK {
		return 0
	}
	digits := c.take(uint64(first[0]))
	v := new(big.Int).SetBytes([]byte(digits)).Uint64()
	if numberBytes(v) != first+digits || v < least || v > most {
		c.fail(api.ErrForm)
	}
	return v
}

func (c *cursor) place() (id api.ID) {
	copy(id[:], c.take(20))
	return id
}

func (c *cursor) peer() api.Peer {
	addr := c.number(0, 999)
	return at(int(addr), c.place())
}

// toldGet reads any bytes as the chapter says.
func toldGet(s string) (api.Letter, api.Errno) {
	c := &cursor{s: s}
	l := api.Letter{Kind: int(c.number(1, 8)), Peer: none}
	l.From = c.peer()
	for _, what := range table[l.Kind] {
		switch what {
		case "Req":
			l.Req = c.number(0, greatest)
		case "ID":
			l.ID = c.place()
		case "Avoid":
			n := c.number(0, 16)
			for i := uint64(0); i < n && c.code == api.OK; i++ {
				l.Avoid = append(l.Avoid, int(c.number(0, 999)))
			}
		case "Done":
			l.Done = c.number(0, 1) == 1
		case "Peer":
			least := uint64(0)
			if l.Kind == api.Found {
				least = 1
			}
			if c.number(least, 1) == 1 {
				l.Peer = c.peer()
			}
		case "Peers":
			n := c.number(0, 8)
			for i := uint64(0); i < n && c.code == api.OK; i++ {
				l.Peers = append(l.Peers, c.peer())
			}
		}
	}
	if c.s != "" {
		c.fail(api.ErrForm)
	}
	if c.code != api.OK {
		return api.Letter{}, c.code
	}
	return l, api.OK
}

// holdAny reads any bytes: those of a letter, put again, are the bytes that were read.
func holdAny(t *testing.T, s string) {
	t.Helper()
	want, code := toldGet(s)
	got, e := letter.Get(s)
	if !same(got, want) || e != code {
		t.Fatalf("P14.2: Get(%.300q): %s, %d, want %s, %d", s, short(got), e, short(want), code)
	}
	if e != api.OK {
		if !empty(got) {
			t.Errorf("P14.2: Get(%.300q): %s beside an error", s, short(got))
		}
		return
	}
	if again, f := letter.Put(got); !letter.Is(got) || again != s || f != api.OK {
		t.Errorf("P14.3: got of %q, put again: %q, %d", s, again, f)
	}
}

// TestAllFewBytes goes through all of two bytes, and all of few kinds of bytes, ahead and behind a From of each kind.
func TestAllFewBytes(t *testing.T) {
	begins := []string{""}
	for _, kind := range kinds {
		s := string([]byte{1, byte(kind)}) + "\x01\x05" + strings.Repeat("\x07", 20)
		begins = append(begins, s)
		if kind == api.Find {
			begins = append(begins, s+"\x00"+strings.Repeat("\x07", 20))
		}
	}
	for _, begin := range begins {
		for a := range 256 {
			holdAny(t, begin+string([]byte{byte(a)}))
			for b := range 256 {
				holdAny(t, begin+string([]byte{byte(a), byte(b)}))
			}
		}
		var all func(s string, more int)
		all = func(s string, more int) {
			holdAny(t, s)
			if more > 0 {
				for _, b := range []string{"\x00", "\x01", "\x02", "\x08", "\x11", strings.Repeat("\x03", 20)} {
					all(s+b, more-1)
				}
			}
		}
		all(begin, 5)
	}
}

// TestTurnedBytes has bytes of right letters turned, left out, and put between.
func TestTurnedBytes(t *testing.T) {
	source := rand.New(rand.NewSource(1))
	list := cutLetters()
	for range 300 {
		list = append(list, anyRight(source))
	}
	for _, l := range list {
		s := bytesOf(l)
		holdAny(t, s)
		for range 300 {
			b := []byte(s)
			for range 1 + source.Intn(2) {
				i := source.Intn(len(b))
				switch source.Intn(5) {
				case 0:
					b[i] = byte(source.Intn(256))
				case 1:
					b[i]++
				case 2:
					b[i]--
				case 3:
					b = slices.Insert(b, i, byte(source.Intn(9)))
				case 4:
					b = slices.Concat(b[:i], b[i+1:], []byte{0})
				}
			}
			holdAny(t, string(b))
		}
	}
}

func anyPlace(source *rand.Rand) (id api.ID) {
	if source.Intn(4) > 0 {
		source.Read(id[source.Intn(20):])
	}
	return id
}

func anyPeer(source *rand.Rand) api.Peer { return at(source.Intn(1000), anyPlace(source)) }

// anyRight is a right letter, of a kind and of parts by chance.
func anyRight(source *rand.Rand) api.Letter {
	l := bare(kinds[source.Intn(len(kinds))])
	l.From = anyPeer(source)
	if has(l.Kind, "Req") {
		l.Req = source.Uint64() >> source.Intn(65)
	}
	if has(l.Kind, "ID") {
		l.ID = anyPlace(source)
	}
	if has(l.Kind, "Avoid") {
		for range source.Intn(17) {
			l.Avoid = append(l.Avoid, source.Intn(1000))
		}
	}
	if has(l.Kind, "Done") {
		l.Done = source.Intn(2) == 0
	}
	if has(l.Kind, "Peer") && source.Intn(3) > 0 {
		l.Peer = anyPeer(source)
	}
	if has(l.Kind, "Peers") {
		for range source.Intn(9) {
			l.Peers = append(l.Peers, anyPeer(source))
		}
	}
	return l
}

// TestAnyLetters takes letters that are right, and turns some parts of them, so that they are wrong in none, in one, or in several ways.
func TestAnyLetters(t *testing.T) {
	source := rand.New(rand.NewSource(2))
	anyAddr := func() int {
		list := slices.Concat(addrs, wrongAddrs)
		return list[source.Intn(len(list))]
	}
	turns := []func(l *api.Letter){
		func(l *api.Letter) {
			l.Kind = slices.Concat(kinds, wrongKinds)[source.Intn(len(kinds)+len(wrongKinds))]
		},
		func(l *api.Letter) { l.Kind = kinds[source.Intn(len(kinds))] },
		func(l *api.Letter) { l.From = at(anyAddr(), anyPlace(source)) },
		func(l *api.Letter) { l.Req = reqs[source.Intn(len(reqs))] },
		func(l *api.Letter) { l.ID = places[source.Intn(len(places))] },
		func(l *api.Letter) { l.Avoid = numbers(source.Intn(19)) },
		func(l *api.Letter) { l.Avoid = append(l.Avoid, anyAddr()) },
		func(l *api.Letter) { l.Done = !l.Done },
		func(l *api.Letter) { l.Peer = none },
		func(l *api.Letter) { l.Peer = at(anyAddr(), anyPlace(source)) },
		func(l *api.Letter) { l.Peers = peers(source.Intn(11)) },
		func(l *api.Letter) { l.Peers = append(l.Peers, at(anyAddr(), anyPlace(source))) },
	}
	n := map[bool]int{}
	for range 100000 {
		l := anyRight(source)
		for range source.Intn(4) {
			turns[source.Intn(len(turns))](&l)
		}
		hold(t, l)
		n[isRight(l)]++
	}
	if n[true] < 10000 || n[false] < 10000 {
		t.Errorf("P14.1: so many are right, and not: %v", n)
	}
}

func TestWhatIsPutIsGot(t *testing.T) {
	source := rand.New(rand.NewSource(3))
	for range 20000 {
		l := anyRight(source)
		s, e := letter.Put(l)
		got, f := letter.Get(s)
		if e != api.OK || f != api.OK || !same(got, l) {
			t.Errorf("P14.3: put %s, %d, got %s, %d", short(l), e, short(got), f)
		}
		if again, g := letter.Put(got); again != s || g != api.OK {
			t.Errorf("P14.3: %q is got, and put again: %q, %d", s, again, g)
		}
	}
}

// TestNoTwoLettersHaveTheSameBytes puts letters that differ in one part.
func TestNoTwoLettersHaveTheSameBytes(t *testing.T) {
	all := map[string]api.Letter{}
	for _, kind := range kinds {
		for _, l := range rightParts(kind) {
			s, _ := letter.Put(l)
			if other, is := all[s]; is && !same(other, l) {
				t.Errorf("P14.3: %s and %s are put as %q", short(other), short(l), s)
			}
			all[s] = l
		}
	}
}

// TestWhatWasToldStays keeps letters that were got while others are, and while what they were made of is written to.
func TestWhatWasToldStays(t *testing.T) {
	source := rand.New(rand.NewSource(4))
	var told, kept []api.Letter
	for range 500 {
		l := anyRight(source)
		given := lend(l)
		s, _ := letter.Put(given.l)
		was := strings.Clone(s)
		got, e := letter.Get(s)
		spoil(given.l)
		if e != api.OK || s != was {
			t.Fatalf("R2: %q was put, and is %q, %d", was, s, e)
		}
		told = append(told, got)
		l.Avoid, l.Peers = slices.Clone(l.Avoid), slices.Clone(l.Peers)
		kept = append(kept, l)
	}
	for i := range told {
		if !same(told[i], kept[i]) {
			t.Fatalf("R2: letter %d was %s, is %s", i, short(kept[i]), short(told[i]))
		}
	}
}

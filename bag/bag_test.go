package bag_test

import (
	"math"
	"math/rand"
	"slices"
	"strconv"
	"strings"
	"testing"

	"espalier/api"
	"espalier/bag"
)

// rightMosts are how many a bag may be for, wrongMosts are not, though some are if only their lowest bits are taken.
var (
	rightMosts = []int{1, 2, 3, 7, 64, 500, 999, 1000}
	wrongMosts = []int{0, -1, -2, -1000, 1001, 1002, 2000, 1 << 16, 1<<16 + 5, 1<<32 + 1, 1<<32 + 1000, 1<<62 + 7, math.MinInt, math.MinInt + 1, math.MinInt + 5, math.MaxInt, math.MaxInt32, math.MinInt32}
)

// addrs are of any size: a bag asks not whether there can be such a node.
var addrs = []int{0, 1, 2, 999, 1000, 1063, -1, -2, 1<<32 + 1, math.MinInt, math.MaxInt}

// bodies are of any bytes, of none, and up to the limit; longBodies are above it, the third one by bytes alone, not by runes.
var (
	bodies     = []string{"", "a", "ab", "\x00", "\xff\xfe", "\u20ac", strings.Repeat("a", 4095), strings.Repeat("b", 4096), strings.Repeat("\x00", 4096)}
	longBodies = []string{strings.Repeat("a", 4097), strings.Repeat("\x00", 4098), strings.Repeat("\u20ac", 1366), strings.Repeat("b", 1<<16+4), strings.Repeat("c", 1<<20)}
)

// noPlaces are none in a bag of any size.
var noPlaces = []int{-1, -2, -1000, 1000, 1001, 1 << 16, 1 << 32, -1 << 32, 1 << 62, math.MinInt, math.MinInt + 1, math.MaxInt - 1, math.MaxInt}

func mail(to int, body string) api.Mail { return api.Mail{From: 9, To: to, Body: body} }

// A plain bag is a row of messages: what it tells is what the document's words say of such a row.
type plain struct {
	most int
	row  []api.Mail
}

func (p *plain) put(m api.Mail) api.Errno {
	if len(m.Body) > 4096 {
		return api.ErrLimit
	}
	if len(p.row) == p.most {
		return api.ErrFull
	}
	p.row = append(p.row, m)
	return api.OK
}

func (p *plain) at(i int) (api.Mail, api.Errno) {
	if i < 0 || i >= len(p.row) {
		return api.Mail{}, api.ErrNone
	}
	return p.row[i], api.OK
}

func (p *plain) take(i int) (api.Mail, api.Errno) {
	m, e := p.at(i)
	if e == api.OK {
		p.row = slices.Concat(p.row[:i], p.row[i+1:])
	}
	return m, e
}

func (p *plain) twice(i int) api.Errno {
	m, e := p.at(i)
	if e != api.OK {
		return e
	}
	return p.put(m)
}

func (p *plain) to(addr int) []int {
	var list []int
	for i, m := range p.row {
		if m.To == addr {
			list = append(list, i)
		}
	}
	return list
}

func (p *plain) lose(addr int) int {
	var left []api.Mail
	for _, m := range p.row {
		if m.To != addr {
			left = append(left, m)
		}
	}
	lost := len(p.row) - len(left)
	p.row = left
	return lost
}

// A pair is a bag, and the plain one that is told the same.
type pair struct {
	t     *testing.T
	b     *bag.Bag
	plain plain
}

func newPair(t *testing.T, most int, mails ...api.Mail) *pair {
	t.Helper()
	b, e := bag.New(most)
	if b == nil || e != api.OK {
		t.Fatalf("P9.1: New(%d): %v, %d", most, b, e)
	}
	p := &pair{t: t, b: b, plain: plain{most: most}}
	for _, m := range mails {
		p.put(m)
	}
	return p
}

func (p *pair) put(m api.Mail) {
	p.t.Helper()
	if got, want := p.b.Put(m), p.plain.put(m); got != want {
		p.t.Errorf("P9.1: Put of %d bytes to %d: %d, want %d", len(m.Body), m.To, got, want)
	}
}

func (p *pair) at(i int) {
	p.t.Helper()
	m, e := p.plain.at(i)
	if got, code := p.b.At(i); got != m || code != e {
		p.t.Errorf("P9.2: At(%d) of %d: %.99v, %d, want %.99v, %d", i, len(p.plain.row), got, code, m, e)
	}
}

func (p *pair) take(i int) api.Mail {
	p.t.Helper()
	size := len(p.plain.row)
	m, e := p.plain.take(i)
	got, code := p.b.Take(i)
	if got != m || code != e {
		p.t.Errorf("P9.2: Take(%d) of %d: %.99v, %d, want %.99v, %d", i, size, got, code, m, e)
	}
	return got
}

func (p *pair) twice(i int) {
	p.t.Helper()
	size := len(p.plain.row)
	if got, want := p.b.Twice(i), p.plain.twice(i); got != want {
		p.t.Errorf("P9.2: Twice(%d) of %d: %d, want %d", i, size, got, want)
	}
}

func (p *pair) to(addr int) []int {
	p.t.Helper()
	got, want := p.b.To(addr), p.plain.to(addr)
	if !slices.Equal(got, want) {
		p.t.Errorf("P9.3: To(%d): %v, want %v", addr, got, want)
	}
	return got
}

func (p *pair) lose(addr int) {
	p.t.Helper()
	if got, want := p.b.Lose(addr), p.plain.lose(addr); got != want {
		p.t.Errorf("P9.3: Lose(%d): %d, want %d", addr, got, want)
	}
}

// hold asks for all that the bag tells, also of places and addresses at which there is nothing.
func (p *pair) hold() {
	p.t.Helper()
	size := len(p.plain.row)
	if got := p.b.Size(); got != size {
		p.t.Errorf("P9.1: Size: %d, want %d", got, size)
	}
	for i := -1; i <= size+1; i++ {
		p.at(i)
	}
	for addr := -1; addr <= 4; addr++ {
		p.to(addr)
	}
}

// letters puts a message a letter, to 1, 2 and 3 in turn.
func letters(t *testing.T, most int, text string) *pair {
	t.Helper()
	p := newPair(t, most)
	for i, c := range text {
		p.put(mail(1+i%3, string(c)))
	}
	return p
}

func (p *pair) text() string {
	s := ""
	for i := range p.b.Size() {
		m, _ := p.b.At(i)
		s += m.Body
	}
	return s
}

func TestNew(t *testing.T) {
	for _, most := range rightMosts {
		p := newPair(t, most)
		p.hold()
		for n := range most {
			p.put(mail(n%5, strconv.Itoa(n)))
		}
		if n := p.b.Size(); n != most {
			t.Errorf("P9.1: a bag for %d has %d", most, n)
		}
		for range 3 {
			p.put(mail(1, "one too many"))
		}
		p.hold()
		p.take(0)
		p.put(mail(1, "room again"))
		p.put(mail(1, "one too many"))
		p.hold()
	}
	for _, most := range wrongMosts {
		if b, e := bag.New(most); b != nil || e != api.ErrArg {
			t.Errorf("P9.1: New(%d): %v, %d, want ErrArg", most, b, e)
		}
	}
}

// TestNil asks with what is wrong otherwise, too: ErrNil stands ahead of the other errors.
func TestNil(t *testing.T) {
	var b *bag.Bag
	for _, body := range slices.Concat(bodies, longBodies) {
		if e := b.Put(mail(1, body)); e != api.ErrNil {
			t.Errorf("P9.1: Put of nil: %d", e)
		}
	}
	for _, i := range append([]int{0, 1, 2}, noPlaces...) {
		if m, e := b.At(i); m != (api.Mail{}) || e != api.ErrNil {
			t.Errorf("P9.2: At(%d) of nil: %v, %d", i, m, e)
		}
		if m, e := b.Take(i); m != (api.Mail{}) || e != api.ErrNil {
			t.Errorf("P9.2: Take(%d) of nil: %v, %d", i, m, e)
		}
		if e := b.Twice(i); e != api.ErrNil {
			t.Errorf("P9.2: Twice(%d) of nil: %d", i, e)
		}
	}
	for _, addr := range addrs {
		if l := b.To(addr); l != nil {
			t.Errorf("P9.3: To(%d) of nil: %v", addr, l)
		}
		if n := b.Lose(addr); n != 0 {
			t.Errorf("P9.3: Lose(%d) of nil: %d", addr, n)
		}
	}
	if n := b.Size(); n != 0 {
		t.Errorf("P9.1: Size of nil: %d", n)
	}
}

func TestNone(t *testing.T) {
	for _, most := range rightMosts {
		p := newPair(t, most)
		p.nothing()
		p.put(mail(1, "a"))
		p.take(0)
		p.nothing()
		p.put(mail(2, "b"))
		p.lose(2)
		p.nothing()
	}
}

// nothing asks an empty bag for all that there is not.
func (p *pair) nothing() {
	p.t.Helper()
	for _, i := range append([]int{0, 1}, noPlaces...) {
		p.at(i)
		p.take(i)
		p.twice(i)
	}
	for _, addr := range addrs {
		p.to(addr)
		p.lose(addr)
	}
	p.hold()
}

func TestBodies(t *testing.T) {
	p := newPair(t, 1000)
	for i, body := range bodies {
		m := api.Mail{From: addrs[i], To: addrs[len(addrs)-1-i], Body: body}
		p.put(m)
		if got, e := p.b.At(i); got != m || e != api.OK {
			t.Errorf("P9.1: put %.99v, at its place %.99v, %d", m, got, e)
		}
		p.twice(i)
		p.take(i)
	}
	p.hold()
}

// TestLongBodies is of bags that are empty, of others, and of full ones: all stay as they were.
func TestLongBodies(t *testing.T) {
	for _, body := range longBodies {
		for size := range 4 {
			p := letters(t, 3, "abc"[:size])
			for _, to := range addrs {
				if e := p.b.Put(mail(to, body)); e != api.ErrLimit {
					t.Errorf("P9.1: Put of %d bytes into a bag of %d: %d, want ErrLimit", len(body), size, e)
				}
			}
			p.hold()
		}
	}
}

// TestFull is of a bag that has room for one more, and then for none: who asks for no place is told so first.
func TestFull(t *testing.T) {
	p := letters(t, 4, "abc")
	p.twice(1)
	p.hold()
	for _, i := range append([]int{-1, 4, 5}, noPlaces...) {
		if e := p.b.Twice(i); e != api.ErrNone {
			t.Errorf("P9.2: Twice(%d) of a full bag: %d, want ErrNone", i, e)
		}
	}
	for i := range 4 {
		if e := p.b.Twice(i); e != api.ErrFull {
			t.Errorf("P9.2: Twice(%d) of a full bag: %d, want ErrFull", i, e)
		}
	}
	for _, body := range bodies {
		if e := p.b.Put(mail(1, body)); e != api.ErrFull {
			t.Errorf("P9.1: Put into a full bag: %d, want ErrFull", e)
		}
	}
	if s := p.text(); s != "abcb" {
		t.Errorf("P9.2: a full bag has %q", s)
	}
	p.lose(3)
	p.put(mail(1, "d"))
	p.put(mail(1, "e"))
	p.hold()
}

func TestNoPlace(t *testing.T) {
	for size := range 5 {
		p := letters(t, 5, "abcde"[:size])
		for _, i := range append([]int{size, size + 1}, noPlaces...) {
			p.at(i)
			p.take(i)
			p.twice(i)
		}
		p.hold()
	}
}

func TestTake(t *testing.T) {
	for i, x := range []struct {
		at                int
		taken, left, text string
	}{
		{0, "a", "bcdef", "bcdefz"}, {1, "b", "acdef", "acdefz"}, {3, "d", "abcef", "abcefz"}, {4, "e", "abcdf", "abcdfz"}, {5, "f", "abcde", "abcdez"},
	} {
		p := letters(t, 6, "abcdef")
		if m, e := p.b.Take(x.at); m.Body != x.taken || m.From != 9 || m.To != 1+x.at%3 || e != api.OK || p.text() != x.left {
			t.Errorf("P9.2: %d: Take(%d): %v, %d, and %q is left", i, x.at, m, e, p.text())
		}
		if e := p.b.Put(mail(1, "z")); e != api.OK || p.text() != x.text {
			t.Errorf("P9.1: %d: a message that is put behind Take: %d, %q", i, e, p.text())
		}
	}
}

func TestTwice(t *testing.T) {
	for i, x := range []struct {
		at   int
		text string
	}{{0, "abca"}, {1, "abcb"}, {2, "abcc"}} {
		p := letters(t, 9, "abc")
		if e := p.b.Twice(x.at); e != api.OK || p.text() != x.text {
			t.Errorf("P9.2: %d: Twice(%d): %d, %q", i, x.at, e, p.text())
		}
		first, _ := p.b.At(x.at)
		if last, e := p.b.At(3); last != first || e != api.OK {
			t.Errorf("P9.2: %d: %v once more is %v, %d", i, first, last, e)
		}
	}
}

// TestLose is of messages at the beginning, in the middle and at the end, of all, and of none.
func TestLose(t *testing.T) {
	for i, x := range []struct {
		to    []int
		addr  int
		lost  int
		left  string
		other []int // the places of those to 2, from then on
	}{
		{[]int{1, 2, 3, 2}, 1, 1, "bcd", []int{0, 2}},
		{[]int{2, 1, 3, 2}, 1, 1, "acd", []int{0, 2}},
		{[]int{2, 3, 2, 1}, 1, 1, "abc", []int{0, 2}},
		{[]int{1, 1, 2, 2}, 1, 2, "cd", []int{0, 1}},
		{[]int{2, 1, 1, 2}, 1, 2, "ad", []int{0, 1}},
		{[]int{1, 2, 2, 1}, 1, 2, "bc", []int{0, 1}},
		{[]int{1, 2, 1, 2}, 1, 2, "bd", []int{0, 1}},
		{[]int{1, 1, 1, 2}, 1, 3, "d", []int{0}},
		{[]int{2, 1, 1, 1}, 1, 3, "a", []int{0}},
		{[]int{1, 1, 1, 1}, 1, 4, "", nil},
		{[]int{2, 2, 2, 2}, 1, 0, "abcd", []int{0, 1, 2, 3}},
		{[]int{2, 2, 2, 2}, 9, 0, "abcd", []int{0, 1, 2, 3}}, // all are from 9
		{[]int{2, 3, 3, 2}, 0, 0, "abcd", []int{0, 3}},
		{[]int{2, -1, 0, math.MinInt}, -1, 1, "acd", []int{0}},
		{[]int{2, -1, 0, math.MinInt}, math.MinInt, 1, "abc", []int{0}},
		{[]int{1<<32 + 1, 2, 1, 1<<32 + 2}, 1, 1, "abd", []int{1}},
	} {
		p := newPair(t, 9)
		for n, to := range x.to {
			p.put(mail(to, "abcd"[n:n+1]))
		}
		if n := p.b.Lose(x.addr); n != x.lost || p.text() != x.left || p.b.Size() != len(x.left) {
			t.Errorf("P9.3: %d: Lose(%d): %d, and %q is left", i, x.addr, n, p.text())
		}
		if l := p.b.To(2); !slices.Equal(l, x.other) {
			t.Errorf("P9.3: %d: To(2) behind Lose(%d): %v", i, x.addr, l)
		}
		if l, n := p.b.To(x.addr), p.b.Lose(x.addr); len(l) != 0 || n != 0 {
			t.Errorf("P9.3: %d: once more To(%d) and Lose: %v, %d", i, x.addr, l, n)
		}
		if e := p.b.Put(mail(x.addr, "z")); e != api.OK || p.text() != x.left+"z" || !slices.Equal(p.b.To(x.addr), []int{len(x.left)}) {
			t.Errorf("P9.3: %d: put behind Lose(%d): %d, %q", i, x.addr, e, p.text())
		}
	}
}

// TestTheSame is of one message, put again and again: each stands for itself.
func TestTheSame(t *testing.T) {
	p := newPair(t, 12, slices.Repeat([]api.Mail{mail(1, "a")}, 5)...)
	p.twice(0)
	p.twice(5)
	p.put(mail(1, "b"))
	p.put(api.Mail{From: 8, To: 1, Body: "a"})
	p.put(mail(2, "a"))
	p.hold()
	for range 3 {
		p.take(2)
		p.hold()
	}
	p.twice(4)
	p.hold()
	p.lose(1)
	p.hold()
	if m := p.take(0); m != mail(2, "a") {
		t.Errorf("P9.4: what is left is %v", m)
	}
	p.nothing()
}

// TestEachPlace takes, or puts once more, what is at each place of bags of each size, behind each that was taken before.
func TestEachPlace(t *testing.T) {
	const text = "abcdefgh"
	for size := 1; size <= len(text); size++ {
		for first := range size {
			for second := range size - 1 {
				p := letters(t, size, text[:size])
				p.take(first)
				p.take(second)
				p.hold()
				for i := range size - 1 {
					p.twice(i)
				}
				p.hold()
				p.lose(1 + second%3)
				p.hold()
			}
		}
	}
}

// TestEachShortScript does all rows of a few calls, in bags for one, two and three.
func TestEachShortScript(t *testing.T) {
	calls := []func(p *pair){
		func(p *pair) { p.put(mail(1, "a")) },
		func(p *pair) { p.put(mail(2, "b")) },
		func(p *pair) { p.take(0) },
		func(p *pair) { p.take(len(p.plain.row) - 1) },
		func(p *pair) { p.take(1) },
		func(p *pair) { p.twice(0) },
		func(p *pair) { p.twice(1) },
		func(p *pair) { p.lose(1) },
		func(p *pair) { p.lose(2) },
	}
	for most := 1; most <= 3; most++ {
		const long = 5
		all := int(math.Pow(float64(len(calls)), long))
		for script := range all {
			p := newPair(t, most)
			for rest, n := script, 0; n < long; rest, n = rest/len(calls), n+1 {
				calls[rest%len(calls)](p)
			}
			p.hold()
			if t.Failed() {
				t.Fatalf("in a bag for %d, script %d", most, script)
			}
		}
	}
}

func TestScripts(t *testing.T) {
	for _, most := range []int{1, 2, 3, 5, 10, 40, 1000} {
		t.Run(strconv.Itoa(most), func(t *testing.T) {
			for seed := range int64(8) {
				script(t, most, rand.New(rand.NewSource(seed)))
			}
		})
	}
}

// script has stretches in which there is more put than taken, and others.
func script(t *testing.T, most int, source *rand.Rand) {
	p := newPair(t, most)
	for step := range 2000 {
		puts := 3 + step/250%2*6
		anyPlace := source.Intn(len(p.plain.row)+3) - 1
		switch n := source.Intn(20); {
		case n < puts:
			p.put(anyMail(source))
		case n < 12:
			p.take(anyPlace)
		case n < 14:
			p.twice(anyPlace)
		case n < 16:
			p.at(anyPlace)
		case n < 17:
			p.to(source.Intn(6) - 1)
		case n < 18 && source.Intn(6) == 0:
			p.lose(source.Intn(6) - 1)
		case n < 19:
			p.put(mail(1, longBodies[source.Intn(len(longBodies))]))
		default:
			p.take(0)
		}
		if step%50 == 49 {
			p.hold()
		}
		if t.Failed() {
			t.Fatalf("at step %d", step)
		}
	}
}

// anyMail is often the same as another one.
func anyMail(source *rand.Rand) api.Mail {
	body := make([]byte, source.Intn(3))
	for i := range body {
		body[i] = byte('a' + source.Intn(2))
	}
	return api.Mail{From: source.Intn(3), To: source.Intn(5), Body: string(body)}
}

// TestOnce is P9.4 by the messages' own names: what is put is taken once, unless it was put twice, or lost; others keep their order.
func TestOnce(t *testing.T) {
	for seed := range int64(20) {
		source := rand.New(rand.NewSource(seed))
		b, _ := bag.New(30)
		due, taken, lost := map[string]int{}, map[string]int{}, map[string]bool{}
		for n := range 600 {
			m := mail(n%7, strconv.Itoa(n))
			if b.Put(m) == api.OK {
				due[m.Body]++
			}
			at := source.Intn(30)
			again, _ := b.At(at)
			if source.Intn(4) == 0 && b.Twice(at) == api.OK {
				due[again.Body]++
			}
			if m, e := b.Take(source.Intn(40)); e == api.OK {
				taken[m.Body]++
			}
			if n%50 == 49 {
				for _, at := range b.To(n % 7) {
					m, _ := b.At(at)
					lost[m.Body] = true
				}
				b.Lose(n % 7)
			}
		}
		for b.Size() > 0 {
			m, _ := b.Take(0)
			taken[m.Body]++
		}
		for name, times := range due {
			if taken[name] > times || taken[name] < times && !lost[name] {
				t.Errorf("P9.4: %s was put %d times, and taken %d times; lost %t", name, times, taken[name], lost[name])
			}
			delete(taken, name)
		}
		if len(taken) > 0 {
			t.Errorf("P9.4: taken, but never put: %v", taken)
		}
	}
}

// TestOrder takes some messages from anywhere: those that are left come in the order in which they were put.
func TestOrder(t *testing.T) {
	for seed := range int64(20) {
		source := rand.New(rand.NewSource(seed))
		b, _ := bag.New(100)
		n := 0
		for range 300 {
			for range source.Intn(20) {
				if b.Put(mail(n%9, strconv.Itoa(1000000+n))) == api.OK {
					n++
				}
			}
			for range source.Intn(20) {
				b.Take(source.Intn(100))
			}
			if source.Intn(5) == 0 {
				b.Lose(source.Intn(9))
			}
			last := ""
			for i := range b.Size() {
				m, e := b.At(i)
				if m.Body <= last || e != api.OK {
					t.Fatalf("P9.4: at place %d stands %s, %d, behind %s", i, m.Body, e, last)
				}
				last = m.Body
			}
		}
	}
}

// TestLongRun has one message that stays while very many others come and go behind it.
func TestLongRun(t *testing.T) {
	p := newPair(t, 1000, mail(1, "stays"))
	for n := range 100000 {
		m := mail(2, strconv.Itoa(n))
		first := p.b.Put(m)
		got, second := p.b.Take(1)
		if first != api.OK || got != m || second != api.OK {
			t.Fatalf("P9.4: %d, %v, %d, want %v", first, got, second, m)
		}
	}
	p.hold()
	for n := range 999 {
		p.put(mail(n%4, strconv.Itoa(n)))
	}
	for range 100000 {
		m, e := p.b.At(0)
		got, f := p.b.Take(0)
		if m != got || e != api.OK || f != api.OK || p.b.Put(got) != api.OK {
			t.Fatalf("P9.4: first stands %v, %d; taken is %v, %d", m, e, got, f)
		}
	}
	p.hold()
}

// TestNeverPanics gives each call whatever there is, in bags that are empty, full, and neither.
func TestNeverPanics(t *testing.T) {
	numbers := slices.Concat(noPlaces, addrs, wrongMosts)
	for size := range 4 {
		for _, n := range numbers {
			p := letters(t, 3, "abc"[:size])
			p.at(n)
			p.twice(n)
			p.to(n)
			p.put(api.Mail{From: n, To: n, Body: "x"})
			p.to(n)
			p.hold()
			p.lose(n)
			p.hold()
			p.take(n)
			p.hold()
		}
	}
}

// TestToldStays keeps each message and each row of places as it was when it was told, while the bag changes in every way.
func TestToldStays(t *testing.T) {
	source := rand.New(rand.NewSource(1))
	p := newPair(t, 20)
	var rows, keptRows [][]int
	var mails, keptMails []*api.Mail
	for n := range 400 {
		m := mail(n%4, strconv.Itoa(n))
		p.put(m)
		m.Body, m.To = "changed behind its back", 77
		row := p.to(n % 4)
		rows, keptRows = append(rows, row), append(keptRows, slices.Clone(row))
		at := source.Intn(20)
		for _, ask := range []func(int) (api.Mail, api.Errno){p.b.At, p.b.Take} {
			told, _ := ask(at)
			kept := told
			mails, keptMails = append(mails, &told), append(keptMails, &kept)
		}
		p.plain.take(at)
		p.twice(source.Intn(20))
		if n%9 == 0 {
			p.lose(n % 4)
		}
		p.hold()
	}
	for i := range rows {
		if !slices.Equal(rows[i], keptRows[i]) {
			t.Errorf("R2: a row of places was %v, is %v", keptRows[i], rows[i])
		}
	}
	for i := range mails {
		if *mails[i] != *keptMails[i] {
			t.Errorf("R2: a message was %v, is %v", *keptMails[i], *mails[i])
		}
	}
}

// TestToldIsNewMemory writes to what was told, and behind it: neither the bag nor another row has it.
func TestToldIsNewMemory(t *testing.T) {
	p := letters(t, 9, "abcdefg")
	other := p.to(1)
	for addr := range 5 {
		row := p.to(addr)
		for i := range row {
			row[i] = 99
		}
		_ = append(row, 98, 97)
		p.hold()
	}
	if !slices.Equal(other, []int{0, 3, 6}) {
		t.Errorf("R2: what was told is now %v", other)
	}
}

func TestBagsAreApart(t *testing.T) {
	a, b := newPair(t, 20), newPair(t, 30)
	for n := range 60 {
		a.put(mail(n%3, "a"))
		b.put(mail(n%2, "b"))
		if n%3 == 0 {
			a.take(n / 2 % 5)
		}
		if n%5 == 0 {
			b.twice(0)
		}
		if n%20 == 19 {
			a.lose(1)
		}
	}
	a.hold()
	b.hold()
	newPair(t, 5).hold()
}

package timer_test

import (
	"cmp"
	"math"
	"math/rand"
	"slices"
	"strconv"
	"testing"

	"espalier/api"
	"espalier/timer"
)

// ids are of any size; some are the same as others, if only their lowest bits are taken, or if they go without a sign.
var ids = []int{0, 1, 2, 3, 7, 999, 1000, 1001, -1, -2, -1000, 1 << 32, 1<<32 + 1, -1 << 32, -1<<32 + 1, 1 << 62, math.MinInt, math.MinInt + 1, math.MaxInt - 1, math.MaxInt, math.MinInt32, math.MaxInt32}

// past are times at which no timer can be set, and to which no one ticks; ahead are others, rising.
var (
	past  = []int{-1, -2, -1000, math.MinInt32, -1 << 32, -1<<32 + 1, -1 << 62, math.MinInt + 1, math.MinInt}
	ahead = []int{0, 1, 2, 999, 1000, 1 << 16, math.MaxInt32, math.MaxInt32 + 1, 1 << 32, 1<<32 + 1, 1 << 62, math.MaxInt - 1, math.MaxInt}
)

// A due is a timer.
type due struct {
	id, at int
}

// A plain row is timers in the order in which they are due: what it tells is what the document's words say of such a row.
type plain struct {
	now int
	row []due
}

func (p *plain) find(id int) int {
	return slices.IndexFunc(p.row, func(d due) bool { return d.id == id })
}

func (p *plain) set(id, at int) api.Errno {
	if at < p.now {
		return api.ErrArg
	}
	if p.find(id) < 0 && len(p.row) == 1000 {
		return api.ErrFull
	}
	p.cancel(id)
	to := slices.IndexFunc(p.row, func(d due) bool { return d.at > at || d.at == at && d.id > id })
	if to < 0 {
		to = len(p.row)
	}
	p.row = slices.Insert(p.row, to, due{id, at})
	return api.OK
}

func (p *plain) cancel(id int) bool {
	from := p.find(id)
	if from < 0 {
		return false
	}
	p.row = slices.Delete(p.row, from, from+1)
	return true
}

func (p *plain) next() (int, int, bool) {
	if len(p.row) == 0 {
		return 0, 0, false
	}
	return p.row[0].id, p.row[0].at, true
}

func (p *plain) tick(to int) ([]int, api.Errno) {
	if to < p.now {
		return nil, api.ErrArg
	}
	p.now = to
	var told []int
	for len(p.row) > 0 && p.row[0].at <= to {
		told = append(told, p.row[0].id)
		p.row = slices.Delete(p.row, 0, 1)
	}
	return told, api.OK
}

// A pair is timers, and the plain row that is told the same.
type pair struct {
	t     *testing.T
	x     *timer.Timers
	plain plain
}

func newPair(t *testing.T, dues ...due) *pair {
	t.Helper()
	p := &pair{t: t, x: timer.New()}
	if p.x == nil {
		t.Fatal("P10.1: New is nil")
	}
	for _, d := range dues {
		p.set(d.id, d.at)
	}
	return p
}

func (p *pair) set(id, at int) {
	p.t.Helper()
	if got, want := p.x.Set(id, at), p.plain.set(id, at); got != want {
		p.t.Errorf("P10.1: Set(%d, %d) at %d: %d, want %d", id, at, p.plain.now, got, want)
	}
	p.look()
}

func (p *pair) cancel(id int) {
	p.t.Helper()
	if got, want := p.x.Cancel(id), p.plain.cancel(id); got != want {
		p.t.Errorf("P10.2: Cancel(%d): %t, want %t", id, got, want)
	}
	p.look()
}

func (p *pair) tick(to int) []int {
	p.t.Helper()
	before := p.plain.now
	want, e := p.plain.tick(to)
	got, code := p.x.Tick(to)
	if !slices.Equal(got, want) || code != e {
		p.t.Errorf("P10.3: Tick(%d) at %d: %v, %d, want %v, %d", to, before, got, code, want, e)
	}
	p.look()
	return got
}

// look asks for all that is told without a change.
func (p *pair) look() {
	p.t.Helper()
	if got := p.x.Now(); got != p.plain.now {
		p.t.Errorf("P10.1: Now: %d, want %d", got, p.plain.now)
	}
	if got := p.x.Size(); got != len(p.plain.row) {
		p.t.Errorf("P10.1: Size: %d, want %d", got, len(p.plain.row))
	}
	id, at, ok := p.x.Next()
	if wantID, wantAt, want := p.plain.next(); id != wantID || at != wantAt || ok != want {
		p.t.Errorf("P10.2: Next: %d, %d, %t, want %d, %d, %t", id, at, ok, wantID, wantAt, want)
	}
}

// end ticks till nothing is left, by the times at which something is due.
func (p *pair) end() {
	p.t.Helper()
	for len(p.plain.row) > 0 && !p.t.Failed() {
		p.tick(p.plain.row[0].at)
	}
	p.look()
}

func TestExample(t *testing.T) {
	x := timer.New()
	for i, d := range []due{{7, 5}, {3, 5}, {9, 2}} {
		if e := x.Set(d.id, d.at); e != api.OK || x.Size() != i+1 {
			t.Errorf("P10.1: Set(%d, %d): %d", d.id, d.at, e)
		}
	}
	if id, at, ok := x.Next(); id != 9 || at != 2 || !ok {
		t.Errorf("P10.2: Next: %d, %d, %t", id, at, ok)
	}
	if told, e := x.Tick(5); !slices.Equal(told, []int{9, 3, 7}) || e != api.OK || x.Size() != 0 || x.Now() != 5 {
		t.Errorf("P10.3: Tick(5): %v, %d", told, e)
	}
}

// TestNil asks with what is wrong otherwise, too: ErrNil stands ahead of the other error.
func TestNil(t *testing.T) {
	var x *timer.Timers
	for range 2 {
		for _, n := range slices.Concat(ids, past, ahead) {
			for _, at := range []int{n, 0, -1, 5} {
				if e := x.Set(n, at); e != api.ErrNil {
					t.Errorf("P10.1: Set(%d, %d) of nil: %d", n, at, e)
				}
			}
			if x.Cancel(n) {
				t.Errorf("P10.2: Cancel(%d) of nil", n)
			}
			if told, e := x.Tick(n); len(told) != 0 || e != api.ErrNil {
				t.Errorf("P10.3: Tick(%d) of nil: %v, %d", n, told, e)
			}
		}
		if id, at, ok := x.Next(); id != 0 || at != 0 || ok {
			t.Errorf("P10.2: Next of nil: %d, %d, %t", id, at, ok)
		}
		if x.Now() != 0 || x.Size() != 0 {
			t.Errorf("P10.1: of nil: Now %d, Size %d", x.Now(), x.Size())
		}
	}
}

// TestNone is of timers of which none was ever set, of which all were cancelled, and of which all were told.
func TestNone(t *testing.T) {
	for _, none := range []func(p *pair){
		func(p *pair) {},
		func(p *pair) { p.set(4, 0); p.cancel(4) },
		func(p *pair) { p.set(4, 0); p.tick(0) },
		func(p *pair) { p.set(4, 9); p.set(5, 3); p.tick(3); p.cancel(4) },
		func(p *pair) { p.set(4, 9); p.set(5, 3); p.cancel(5); p.tick(20) },
	} {
		p := newPair(t)
		p.look()
		none(p)
		if id, at, ok := p.x.Next(); id != 0 || at != 0 || ok || p.x.Size() != 0 {
			t.Errorf("P10.2: Next of none: %d, %d, %t; Size %d", id, at, ok, p.x.Size())
		}
		for _, id := range ids {
			p.cancel(id)
		}
		for _, to := range slices.Concat(past, ahead, past) {
			p.tick(to)
		}
		p.set(4, math.MaxInt)
		p.end()
	}
}

// TestSetTimes sets at the time, one below it, and far from it, as the time goes on to its end.
func TestSetTimes(t *testing.T) {
	p := newPair(t)
	for _, now := range ahead {
		p.tick(now)
		for _, at := range slices.Concat(past, ahead, []int{now - 1, now}) {
			p.set(at, at)
			p.set(5, at)
		}
		for _, id := range []int{5, 6, -7} {
			if e := p.x.Set(id, now-1); e != api.ErrArg {
				t.Errorf("P10.1: at %d Set(%d, %d): %d, want ErrArg", now, id, now-1, e)
			}
			if e := p.x.Set(id, now); e != api.OK {
				t.Errorf("P10.1: at %d Set(%d, %d): %d", now, id, now, e)
			}
			p.set(id, now)
		}
	}
	p.tick(math.MaxInt)
}

// TestSetAgain sets an id that is there to an earlier time, a later one and the same, ahead of others and behind them.
func TestSetAgain(t *testing.T) {
	for i, x := range []struct {
		id, at int
		told   []int
	}{
		{1, 20, []int{1, 2, 3, 4}}, {2, 30, []int{1, 2, 3, 4}}, {4, 50, []int{1, 2, 3, 4}}, // the same
		{1, 19, []int{1, 2, 3, 4}}, {4, 10, []int{4, 1, 2, 3}}, {3, 25, []int{1, 3, 2, 4}}, {2, 10, []int{2, 1, 3, 4}}, // earlier
		{1, 60, []int{2, 3, 4, 1}}, {1, 35, []int{2, 1, 3, 4}}, {2, 45, []int{1, 3, 2, 4}}, {4, 51, []int{1, 2, 3, 4}}, {3, math.MaxInt, []int{1, 2, 4, 3}}, // later
		{1, 30, []int{1, 2, 3, 4}}, {3, 30, []int{1, 2, 3, 4}}, {4, 20, []int{1, 4, 2, 3}}, {3, 20, []int{1, 3, 2, 4}}, {1, 50, []int{2, 3, 1, 4}}, // when another one is
	} {
		p := newPair(t, due{1, 20}, due{2, 30}, due{3, 40}, due{4, 50})
		p.tick(10)
		p.set(x.id, x.at)
		if p.x.Size() != 4 {
			t.Errorf("P10.1: %d: %d are there", i, p.x.Size())
		}
		if told := p.tick(math.MaxInt); !slices.Equal(told, x.told) {
			t.Errorf("P10.1: %d: behind Set(%d, %d) told are %v", i, x.id, x.at, told)
		}
	}
}

// TestSetAgainInVain asks for a time that is over, of ids that are there: they stay due when they were.
func TestSetAgainInVain(t *testing.T) {
	p := newPair(t, due{1, 20}, due{2, 30}, due{3, 20})
	p.tick(10)
	for id := 1; id <= 3; id++ {
		for _, at := range append([]int{9, 8, 1, 0}, past...) {
			p.set(id, at)
		}
	}
	if told := p.tick(25); !slices.Equal(told, []int{1, 3}) {
		t.Errorf("P10.1: told are %v", told)
	}
	p.end()
}

// TestAnew sets what was due at one time to another: at the one it is told no longer.
func TestAnew(t *testing.T) {
	p := newPair(t, due{1, 5}, due{2, 5}, due{3, 5})
	p.set(2, 9)
	if told := p.tick(8); !slices.Equal(told, []int{1, 3}) {
		t.Errorf("P10.1: told are %v", told)
	}
	p.set(2, 8)
	if told := p.tick(9); !slices.Equal(told, []int{2}) {
		t.Errorf("P10.1: told are %v", told)
	}
	if told := p.tick(20); len(told) != 0 {
		t.Errorf("P10.4: told once more are %v", told)
	}
}

// TestAgainBehindTick sets ids that were told already, also at the very time.
func TestAgainBehindTick(t *testing.T) {
	p := newPair(t, due{1, 5}, due{2, 5}, due{3, 9})
	p.tick(5)
	p.set(2, 5)
	p.set(1, 7)
	if told := p.tick(5); !slices.Equal(told, []int{2}) {
		t.Errorf("P10.4: told are %v", told)
	}
	p.set(2, 7)
	if told := p.tick(9); !slices.Equal(told, []int{1, 2, 3}) {
		t.Errorf("P10.4: told are %v", told)
	}
	for range 5 {
		p.set(3, 9)
		if told := p.tick(9); !slices.Equal(told, []int{3}) {
			t.Errorf("P10.4: told are %v", told)
		}
	}
	p.cancel(3)
	p.tick(100)
}

// thousand sets as many timers as may be, at times that rise, fall, are the same, or neither.
func thousand(t *testing.T, at func(n int) int) *pair {
	t.Helper()
	p := newPair(t)
	for n := range 1000 {
		p.set(n, at(n))
	}
	return p
}

var orders = []func(n int) int{
	func(n int) int { return n },
	func(n int) int { return 1000 - n },
	func(n int) int { return 7 },
	func(n int) int { return n * 389 % 1000 },
	func(n int) int { return n * 389 % 10 },
}

func TestFull(t *testing.T) {
	for _, at := range orders {
		p := thousand(t, at)
		for _, id := range []int{-1, 1000, 1001, 1<<32 + 5, math.MinInt, math.MaxInt} {
			for _, at := range []int{0, 7, 5000, math.MaxInt} {
				if e := p.x.Set(id, at); e != api.ErrFull {
					t.Errorf("P10.1: Set(%d, %d) of one more than 1000: %d, want ErrFull", id, at, e)
				}
			}
			p.cancel(id)
		}
		for _, id := range []int{0, 1, 500, 999} {
			p.set(id, 400)
			p.set(id, 3)
			p.set(id, 2000)
		}
		p.cancel(600)
		p.cancel(600)
		p.set(-5, 4)
		p.set(600, 4)
		p.tick(4)
		for n := range 100 {
			p.set(3000+n, 50+n)
		}
		p.end()
	}
}

// TestFirstError is of full timers, and a time that is over: ErrArg stands ahead of ErrFull.
func TestFirstError(t *testing.T) {
	p := thousand(t, func(n int) int { return 10 + n })
	p.tick(9)
	for _, id := range []int{-1, 0, 5, 1000} {
		for _, at := range append([]int{8, 0}, past...) {
			if e := p.x.Set(id, at); e != api.ErrArg {
				t.Errorf("P10.1: Set(%d, %d) of full timers at 9: %d, want ErrArg", id, at, e)
			}
		}
	}
	if e := p.x.Set(1000, 9); e != api.ErrFull {
		t.Errorf("P10.1: Set(1000, 9) of full timers at 9: %d, want ErrFull", e)
	}
	p.look()
	p.end()
}

func TestCancel(t *testing.T) {
	dues := []due{{4, 10}, {-3, 10}, {9, 20}, {1, 30}, {math.MaxInt, 30}, {math.MinInt, 40}, {6, 15}}
	order := []int{-3, 4, 6, 9, 1, math.MaxInt, math.MinInt}
	for i, id := range order {
		p := newPair(t, dues...)
		if !p.x.Cancel(id) || p.x.Cancel(id) || p.x.Size() != 6 {
			t.Errorf("P10.2: Cancel(%d), and once more; %d are left", id, p.x.Size())
		}
		p.plain.cancel(id)
		if told := p.tick(40); !slices.Equal(told, slices.Concat(order[:i], order[i+1:])) {
			t.Errorf("P10.2: behind Cancel(%d) told are %v", id, told)
		}
	}
	p := newPair(t, dues...)
	for _, id := range []int{0, 2, -4, 3, 10, 20, 15, 40, 1<<32 + 1, 1<<32 + 4, math.MaxInt - 1, math.MinInt + 1} {
		p.cancel(id)
	}
	p.tick(15)
	for _, id := range []int{-3, 4, 6} {
		if p.x.Cancel(id) {
			t.Errorf("P10.2: Cancel(%d), which was told", id)
		}
	}
	p.set(6, 15)
	p.cancel(6)
	p.set(6, 35)
	p.cancel(6)
	p.end()
}

// TestCancelAll cancels all timers of each order: from the first one on, from the last one on, and from the middle.
func TestCancelAll(t *testing.T) {
	for _, at := range orders {
		for _, place := range []func(n int) int{
			func(n int) int { return 0 },
			func(n int) int { return n - 1 },
			func(n int) int { return n / 2 },
			func(n int) int { return n / 3 },
		} {
			p := thousand(t, at)
			for n := 1000; n > 0; n-- {
				p.cancel(p.plain.row[place(n)].id)
			}
			p.set(3, 5)
			p.cancel(2)
			p.end()
		}
	}
}

// TestOneTime is of ids that are all due at one time: they come by rising id, with their signs.
func TestOneTime(t *testing.T) {
	rising := slices.Sorted(slices.Values(ids))
	for _, at := range ahead {
		for seed := range int64(20) {
			p := newPair(t)
			for _, n := range rand.New(rand.NewSource(seed)).Perm(len(ids)) {
				p.set(ids[n], at)
			}
			if id, when, ok := p.x.Next(); id != math.MinInt || when != at || !ok {
				t.Errorf("P10.2: Next: %d, %d, %t", id, when, ok)
			}
			if at > 0 {
				p.tick(at - 1)
			}
			if told := p.tick(at); !slices.Equal(told, rising) {
				t.Errorf("P10.3: told are %v", told)
			}
		}
	}
}

func TestNext(t *testing.T) {
	dues := []due{{5, 9}, {4, 9}, {6, 9}, {-1, 9}, {7, 8}, {8, 8}, {0, 1 << 62}, {-7, math.MaxInt}}
	want := []due{{7, 8}, {8, 8}, {-1, 9}, {4, 9}, {5, 9}, {6, 9}, {0, 1 << 62}, {-7, math.MaxInt}}
	p := newPair(t, dues...)
	for _, d := range want {
		for range 2 {
			if id, at, ok := p.x.Next(); id != d.id || at != d.at || !ok {
				t.Errorf("P10.2: Next: %d, %d, %t, want %v", id, at, ok, d)
			}
		}
		p.cancel(d.id)
	}
	p.look()
}

// TestTick is of a timer at 10, and one at 20.
func TestTick(t *testing.T) {
	type step struct {
		to   int
		told []int
		e    api.Errno
	}
	for i, steps := range [][]step{
		{{0, nil, api.OK}, {-1, nil, api.ErrArg}, {0, nil, api.OK}},
		{{9, nil, api.OK}, {8, nil, api.ErrArg}, {10, []int{1}, api.OK}, {10, nil, api.OK}, {9, nil, api.ErrArg}},
		{{11, []int{1}, api.OK}, {10, nil, api.ErrArg}, {19, nil, api.OK}, {20, []int{2}, api.OK}, {19, nil, api.ErrArg}},
		{{20, []int{1, 2}, api.OK}, {20, nil, api.OK}, {21, nil, api.OK}},
		{{10, []int{1}, api.OK}, {math.MaxInt, []int{2}, api.OK}, {math.MaxInt, nil, api.OK}, {math.MaxInt - 1, nil, api.ErrArg}, {math.MinInt, nil, api.ErrArg}},
		{{math.MaxInt, []int{1, 2}, api.OK}, {0, nil, api.ErrArg}, {10, nil, api.ErrArg}},
		{{math.MinInt, nil, api.ErrArg}, {1 << 32, []int{1, 2}, api.OK}, {5, nil, api.ErrArg}},
	} {
		x := timer.New()
		first, second := x.Set(2, 20), x.Set(1, 10)
		if first != api.OK || second != api.OK {
			t.Errorf("P10.1: Set: %d, %d", first, second)
		}
		now, size := 0, 2
		for n, s := range steps {
			told, e := x.Tick(s.to)
			if e == api.OK {
				now, size = s.to, size-len(s.told)
			}
			if !slices.Equal(told, s.told) || e != s.e || x.Now() != now || x.Size() != size {
				t.Errorf("P10.3: %d: %d: Tick(%d): %v, %d; Now %d, Size %d", i, n, s.to, told, e, x.Now(), x.Size())
			}
		}
	}
}

// TestManySteps comes to one time in one step, and in many: all in all the same is told.
func TestManySteps(t *testing.T) {
	for seed := range int64(40) {
		source := rand.New(rand.NewSource(seed))
		var dues []due
		for range source.Intn(1000) {
			dues = append(dues, due{source.Intn(2000) - 1000, source.Intn(300)})
		}
		whole := newPair(t, dues...).tick(400)
		for _, longest := range []int{1, 2, 7, 100, 399} {
			p := newPair(t, dues...)
			var told []int
			for now := 0; now < 400; {
				now = min(400, now+source.Intn(longest+1))
				told = append(told, p.tick(now)...)
			}
			if !slices.Equal(told, whole) {
				t.Errorf("P10.4: in steps of up to %d told are %v, in one %v", longest, told, whole)
			}
		}
	}
}

// TestOnce counts how often each timer is told that is set once: once, unless it is cancelled, and at the first step to its time.
func TestOnce(t *testing.T) {
	for seed := range int64(20) {
		source := rand.New(rand.NewSource(seed))
		x := timer.New()
		at, times, cancelled := map[int]int{}, map[int]int{}, map[int]int{}
		for now := 0; now < 2000 || x.Size() > 0; {
			for range source.Intn(4) {
				if id := len(at); now < 2000 {
					at[id] = now + source.Intn(100)
					if e := x.Set(id, at[id]); e != api.OK {
						t.Fatalf("P10.1: Set(%d, %d): %d", id, at[id], e)
					}
				}
			}
			if id := source.Intn(len(at) + 1); x.Cancel(id) {
				cancelled[id]++
			}
			before := now
			now += 1 + source.Intn(10)
			told, e := x.Tick(now)
			for _, id := range told {
				times[id]++
				if at[id] < before || at[id] > now || e != api.OK {
					t.Errorf("P10.4: %d was due at %d, and told from %d to %d", id, at[id], before, now)
				}
			}
		}
		for id := range at {
			if times[id]+cancelled[id] != 1 {
				t.Errorf("P10.4: %d was told %d times, cancelled %d times", id, times[id], cancelled[id])
			}
		}
	}
}

// TestEachOrder sets up to six timers in each order, takes one away or sets it anew, and tells all.
func TestEachOrder(t *testing.T) {
	for size := 1; size <= 6; size++ {
		eachOrder(make([]int, 0, size), size, func(order []int) {
			for _, id := range order {
				for _, change := range []func(p *pair){
					func(p *pair) { p.cancel(id) },
					func(p *pair) { p.set(id, 0) },
					func(p *pair) { p.set(id, 3) },
					func(p *pair) { p.set(id, 9) },
				} {
					p := newPair(t)
					for id, at := range order {
						p.set(id, at)
					}
					change(p)
					p.end()
				}
			}
		})
		if t.Failed() {
			t.Fatalf("with %d timers", size)
		}
	}
}

func eachOrder(head []int, size int, use func([]int)) {
	if len(head) == size {
		use(head)
	}
	for n := range size {
		if !slices.Contains(head, n) {
			eachOrder(append(head, n), size, use)
		}
	}
}

// TestEachShortScript does all rows of a few calls.
func TestEachShortScript(t *testing.T) {
	calls := []func(p *pair){
		func(p *pair) { p.set(1, p.plain.now) },
		func(p *pair) { p.set(1, p.plain.now+2) },
		func(p *pair) { p.set(2, p.plain.now+1) },
		func(p *pair) { p.set(3, 3) },
		func(p *pair) { p.set(-3, 3) },
		func(p *pair) { p.cancel(1) },
		func(p *pair) { p.cancel(3) },
		func(p *pair) { p.tick(p.plain.now) },
		func(p *pair) { p.tick(p.plain.now + 1) },
		func(p *pair) { p.tick(3) },
	}
	const long = 5
	all := int(math.Pow(float64(len(calls)), long))
	for script := range all {
		p := newPair(t)
		for rest, n := script, 0; n < long; rest, n = rest/len(calls), n+1 {
			calls[rest%len(calls)](p)
		}
		p.end()
		if t.Failed() {
			t.Fatalf("script %d", script)
		}
	}
}

func TestScripts(t *testing.T) {
	for _, x := range []struct{ ids, ahead, step int }{{3, 4, 2}, {20, 10, 3}, {20, 1000, 50}, {300, 5, 1}, {300, 5000, 9}, {1500, 100000, 9}, {1500, 3, 0}} {
		t.Run(strconv.Itoa(x.ids)+" "+strconv.Itoa(x.ahead), func(t *testing.T) {
			for seed := range int64(6) {
				script(t, x.ids, x.ahead, x.step, rand.New(rand.NewSource(seed)))
			}
		})
	}
}

// script has stretches in which there is more set than taken, and others.
func script(t *testing.T, many, far, step int, source *rand.Rand) {
	p := newPair(t)
	for n := range 4000 {
		sets := 8 + n/1500%2*10
		id, now := source.Intn(many)-many/2, p.plain.now
		switch k := source.Intn(20); {
		case k < sets:
			p.set(id, now+source.Intn(far+2)-1)
		case k < 14:
			p.cancel(id)
		case k < 15 && len(p.plain.row) > 0:
			p.cancel(p.plain.row[source.Intn(len(p.plain.row))].id)
		case k < 17 && len(p.plain.row) > 0:
			p.set(p.plain.row[source.Intn(len(p.plain.row))].id, now+source.Intn(far+1))
		case k < 18:
			p.tick(now - 1)
		case source.Intn(500) == 0:
			p.tick(now + 2*far)
		default:
			p.tick(now + source.Intn(step+1))
		}
		if t.Failed() {
			t.Fatalf("at step %d", n)
		}
	}
	p.end()
}

// TestLongRun has a few timers set, told and cancelled very often, beside some that stay.
func TestLongRun(t *testing.T) {
	p := newPair(t, due{-1, 1 << 40}, due{-2, 1 << 40})
	for n := range 100000 {
		first, second := p.x.Set(n, n+1), p.x.Set(n+1<<32, n+2)
		told, e := p.x.Tick(n + 1)
		if first != api.OK || second != api.OK || e != api.OK || !slices.Equal(told, []int{n}) || !p.x.Cancel(n+1<<32) {
			t.Fatalf("P10.4: %d: %d, %d, %v, %d", n, first, second, told, e)
		}
	}
	p.plain.now = 100000
	p.look()
	p.cancel(0)
	p.end()
}

// TestNeverPanics gives each call whatever there is, to timers that are none, few, and full.
func TestNeverPanics(t *testing.T) {
	numbers := slices.Concat(ids, past, ahead)
	for _, size := range []int{0, 1, 2, 3, 1000} {
		for _, n := range numbers {
			p := newPair(t)
			for id := range size {
				p.set(id, id%7)
			}
			for _, m := range []int{n, 0, 3, math.MaxInt, math.MinInt} {
				p.set(n, m)
				p.set(m, n)
				p.cancel(m)
				p.set(m, n)
				p.tick(m - 1)
				p.tick(n)
				p.tick(m)
			}
			p.tick(math.MaxInt)
		}
	}
}

// TestToldStays keeps each row as it was when it was told, while the timers change in every way.
func TestToldStays(t *testing.T) {
	source := rand.New(rand.NewSource(1))
	p := newPair(t)
	var rows, kept [][]int
	for n := range 600 {
		for range source.Intn(20) {
			p.set(source.Intn(50), n+source.Intn(5))
		}
		p.cancel(source.Intn(50))
		row := p.tick(n)
		rows, kept = append(rows, row), append(kept, slices.Clone(row))
	}
	for i := range rows {
		if !slices.Equal(rows[i], kept[i]) {
			t.Errorf("R2: a row was %v, is %v", kept[i], rows[i])
		}
	}
}

// TestToldIsNewMemory writes to what was told, and behind it: neither the timers nor another row has it.
func TestToldIsNewMemory(t *testing.T) {
	p := newPair(t)
	var other, kept []int
	for n := range 50 {
		for id := range 20 {
			p.set(id-10, n+id%4)
		}
		row := p.tick(n)
		if n%5 == 0 {
			other, kept = row, slices.Clone(row)
			continue
		}
		for i := range row {
			row[i] = 99
		}
		_ = append(row, 98, 97)
		p.look()
		if !slices.Equal(other, kept) {
			t.Errorf("R2: what was told as %v is now %v", kept, other)
		}
	}
	p.end()
}

func TestTimersAreApart(t *testing.T) {
	a, b := newPair(t), newPair(t)
	for n := range 200 {
		a.set(n%20, n+n%7)
		b.set(n%30, n+n%11)
		if n%3 == 0 {
			a.cancel(n % 5)
		}
		if n%5 == 0 {
			b.tick(n)
		}
		if n%20 == 19 {
			a.tick(n)
		}
	}
	a.end()
	b.end()
	newPair(t).look()
}

// TestSameAgain tells the same timers the same, however they came to be there.
func TestSameAgain(t *testing.T) {
	var dues []due
	for _, id := range ids {
		dues = append(dues, due{id, (id%5 + 5) % 5})
	}
	want := newPair(t, dues...).tick(9)
	for seed := range int64(50) {
		source := rand.New(rand.NewSource(seed))
		p := newPair(t)
		for _, n := range source.Perm(len(dues)) {
			p.set(dues[n].id, source.Intn(9))
			p.set(n+5000, source.Intn(9))
		}
		for _, n := range source.Perm(len(dues)) {
			p.cancel(n + 5000)
			p.set(dues[n].id, dues[n].at)
		}
		if told := p.tick(9); !slices.Equal(told, want) {
			t.Errorf("R2: told are %v, want %v", told, want)
		}
	}
	slices.SortFunc(dues, func(a, b due) int { return cmp.Or(cmp.Compare(a.at, b.at), cmp.Compare(a.id, b.id)) })
	for i, d := range dues {
		if want[i] != d.id {
			t.Errorf("P10.3: told at place %d is %d, want %d", i, want[i], d.id)
		}
	}
}

package morton_test

import (
	"fmt"
	"math"
	"math/rand"
	"slices"
	"strconv"
	"strings"
	"testing"

	"espalier/api"
	"espalier/label"
	"espalier/morton"
)

const (
	greatest = math.MaxUint64
	most     = math.MaxUint32
)

// The tests hold keys against texts of 0 and 1: a key's text has its y's and its x's bits by turns, the highest ones first, and a label's text is how those of its keys begin.

// number is what a text of 0 and 1 tells.
func number(bits string) uint64 {
	v, err := strconv.ParseUint(bits, 2, 64)
	if err != nil {
		panic(err)
	}
	return v
}

func woven(x, y uint32) uint64 {
	xs, ys := fmt.Sprintf("%032b", x), fmt.Sprintf("%032b", y)
	var text strings.Builder
	for i := range 32 {
		text.WriteByte(ys[i])
		text.WriteByte(xs[i])
	}
	return number(text.String())
}

// point has x and y of the point that a text of 64 bits tells.
func point(text string) (x, y uint32) {
	var xs, ys strings.Builder
	for i := 0; i < 64; i += 2 {
		ys.WriteByte(text[i])
		xs.WriteByte(text[i+1])
	}
	return uint32(number(xs.String())), uint32(number(ys.String()))
}

func written(key uint64) string { return fmt.Sprintf("%064b", key) }

func fill(bits, last string) string { return bits + strings.Repeat(last, 64-len(bits)) }

func of(bits string) api.Label {
	return api.Label{Len: len(bits), Bits: number(fill(bits, "0"))}
}

func boxOf(bits string) api.Rect {
	x1, y1 := point(fill(bits, "0"))
	x2, y2 := point(fill(bits, "1"))
	return api.Rect{X1: x1, X2: x2, Y1: y1, Y2: y2}
}

func between(a, n, b uint32) bool { return a <= n && n <= b }

func has(r api.Rect, x, y uint32) bool { return between(r.X1, x, r.X2) && between(r.Y1, y, r.Y2) }

// all is the rectangle of all points.
var all = api.Rect{X2: most, Y2: most}

func one(x, y uint32) api.Rect { return api.Rect{X1: x, X2: x, Y1: y, Y2: y} }

// numbers are edges of 32 bits, and some in between.
func numbers() []uint32 {
	list := []uint32{0, 1, 2, 3, 5, 10, 0x55555555, 0xaaaaaaaa, 0x0f0f0f0f, 0xffff0000, most - 2, most - 1, most}
	for k := 2; k < 32; k++ {
		list = append(list, 1<<k, 1<<k-1, most-1<<k)
	}
	source := rand.New(rand.NewSource(1))
	for range 20 {
		list = append(list, source.Uint32())
	}
	return list
}

func keys() []uint64 {
	list := []uint64{0, 1, 2, 3, 0x5555555555555555, 0xaaaaaaaaaaaaaaaa, greatest - 2, greatest - 1, greatest}
	for k := 2; k < 64; k++ {
		list = append(list, 1<<k, 1<<k-1, greatest-1<<k)
	}
	source := rand.New(rand.NewSource(2))
	for range 60 {
		list = append(list, source.Uint64())
	}
	return list
}

// bitTexts are the root's, all of few bits, and of each length, odd or even, the least one, the greatest one, and some in between.
func bitTexts() []string {
	list := []string{""}
	for n := 1; n <= 5; n++ {
		for v := range 1 << n {
			list = append(list, fmt.Sprintf("%0*b", n, v))
		}
	}
	source := rand.New(rand.NewSource(3))
	for n := 6; n <= 64; n++ {
		list = append(list, strings.Repeat("0", n), strings.Repeat("1", n), strings.Repeat("01", n)[:n], strings.Repeat("10", n)[:n])
		list = append(list, written(source.Uint64())[:n], written(source.Uint64())[:n])
	}
	return list
}

// rightRects are all points, single points, lines, and others.
func rightRects() []api.Rect {
	list := []api.Rect{all, {X1: 1, X2: 2, Y1: 1, Y2: 2}, {X2: most}, {Y2: most}, {X1: most, X2: most, Y2: most}, {X2: most, Y1: most, Y2: most}}
	for _, n := range []uint32{0, 1, 1<<31 - 1, 1 << 31, most - 1, most} {
		list = append(list, one(n, n), one(n, 0), one(0, n), one(most, n), one(n, most))
		list = append(list, api.Rect{X1: n, X2: most, Y1: n, Y2: most}, api.Rect{X2: n, Y2: n}, api.Rect{X2: n, Y1: n, Y2: most}, api.Rect{X1: n, X2: most, Y2: n})
	}
	source := rand.New(rand.NewSource(4))
	for range 100 {
		list = append(list, anyRect(source, source.Intn(32)), anyRect(source, 0))
	}
	return list
}

// anyRect lies anywhere; the more bits are shifted out, the smaller it is.
func anyRect(source *rand.Rand, shift int) api.Rect {
	x, y := source.Uint32(), source.Uint32()
	w, h := source.Uint32()>>shift, source.Uint32()>>shift
	return api.Rect{X1: x, X2: max(x, x+w), Y1: y, Y2: max(y, y+h)}
}

var wrongRects = []api.Rect{
	{X1: 1}, {Y1: 1}, {X1: 1, Y1: 1}, {X1: 2, X2: 1, Y2: 9}, {X2: 9, Y1: 2, Y2: 1}, {X1: 2, X2: 1, Y1: 2, Y2: 1},
	{X1: most, X2: most - 1, Y2: most}, {X2: most, Y1: most, Y2: most - 1}, {X1: most, Y2: most}, {X2: most, Y1: most}, {X1: most, Y1: most},
	{X1: 1 << 31, X2: 1<<31 - 1, Y2: most}, {X2: most, Y1: 1 << 31, Y2: 1<<31 - 1},
}

// wrongLabels have a length that none has, or bits behind their last one.
func wrongLabels() []api.Label {
	var list []api.Label
	for _, n := range []int{-1, -2, -64, math.MinInt, 65, 66, 128, 1 << 32, math.MaxInt} {
		list = append(list, api.Label{Len: n}, api.Label{Len: n, Bits: 1}, api.Label{Len: n, Bits: 1 << 63}, api.Label{Len: n, Bits: greatest})
	}
	for n := range 64 {
		list = append(list, api.Label{Len: n, Bits: 1}, api.Label{Len: n, Bits: 1 << (63 - n)}, api.Label{Len: n, Bits: greatest})
	}
	return list
}

func TestWeaveHasBothNumbersBitsByTurns(t *testing.T) {
	for _, x := range numbers() {
		for _, y := range numbers() {
			if got := morton.Weave(x, y); got != woven(x, y) {
				t.Errorf("P4.1: Weave(%d, %d) = %x, want %x", x, y, got, woven(x, y))
			}
		}
	}
}

func TestWeaveOfEachBit(t *testing.T) {
	for i := range 32 {
		if got := morton.Weave(1<<i, 0); got != 1<<(2*i) {
			t.Errorf("P4.1: x's bit %d: %x", i, got)
		}
		if got := morton.Weave(0, 1<<i); got != 1<<(2*i+1) {
			t.Errorf("P4.1: y's bit %d: %x", i, got)
		}
	}
}

func TestKnownKeys(t *testing.T) {
	for _, c := range []struct {
		x, y uint32
		z    uint64
	}{
		{3, 1, 7}, {0, 0, 0}, {1, 0, 1}, {0, 1, 2}, {1, 1, 3}, {2, 0, 4}, {0, 2, 8}, {3, 3, 15},
		{most, 0, 0x5555555555555555}, {0, most, 0xaaaaaaaaaaaaaaaa}, {most, most, greatest}, {1 << 31, 0, 1 << 62}, {0, 1 << 31, 1 << 63},
	} {
		if got := morton.Weave(c.x, c.y); got != c.z {
			t.Errorf("P4.1: Weave(%d, %d) = %d, want %d", c.x, c.y, got, c.z)
		}
		if x, y := morton.Apart(c.z); x != c.x || y != c.y {
			t.Errorf("P4.1: Apart(%d) = %d, %d, want %d, %d", c.z, x, y, c.x, c.y)
		}
	}
}

func TestApartTellsTheKeysPoint(t *testing.T) {
	for _, z := range keys() {
		wantX, wantY := point(written(z))
		if x, y := morton.Apart(z); x != wantX || y != wantY {
			t.Errorf("P4.1: Apart(%x) = %d, %d, want %d, %d", z, x, y, wantX, wantY)
		}
	}
}

func TestIs(t *testing.T) {
	for _, r := range append(rightRects(), api.Rect{}) {
		if !morton.Is(r) {
			t.Errorf("P4.1: Is(%+v) is false", r)
		}
	}
	for _, r := range wrongRects {
		if morton.Is(r) {
			t.Errorf("P4.1: Is(%+v) is true", r)
		}
	}
}

func TestInsideHasTheSidesWithIt(t *testing.T) {
	for _, r := range rightRects() {
		for _, x := range []uint32{r.X1 - 1, r.X1, r.X1 + 1, r.X2 - 1, r.X2, r.X2 + 1, 0, most} {
			for _, y := range []uint32{r.Y1 - 1, r.Y1, r.Y1 + 1, r.Y2 - 1, r.Y2, r.Y2 + 1, 0, most} {
				if got := morton.Inside(r, woven(x, y)); got != has(r, x, y) {
					t.Errorf("P4.1: Inside(%+v) of %d, %d: %v", r, x, y, got)
				}
			}
		}
		for _, z := range keys() {
			x, y := point(written(z))
			if got := morton.Inside(r, z); got != has(r, x, y) {
				t.Errorf("P4.1: Inside(%+v, %x) is %v", r, z, got)
			}
		}
	}
}

func TestNothingIsInsideAWrongRectangle(t *testing.T) {
	for _, r := range wrongRects {
		for _, z := range append(keys(), woven(r.X1, r.Y1), woven(r.X2, r.Y2), woven(r.X1, r.Y2), woven(r.X2, r.Y1)) {
			if morton.Inside(r, z) {
				t.Errorf("P4.1: Inside(%+v, %d) is true", r, z)
			}
		}
	}
}

func TestBoxIsOfALabelsCorners(t *testing.T) {
	for _, bits := range bitTexts() {
		if got, e := morton.Box(of(bits)); e != api.OK || got != boxOf(bits) {
			t.Errorf("P4.2: Box of the bits %q: %+v, %d, want %+v", bits, got, e, boxOf(bits))
		}
	}
}

func TestKnownBoxes(t *testing.T) {
	for text, want := range map[string]api.Rect{
		"/":                                 all,
		"/0":                                {X2: most, Y2: 1<<31 - 1},
		"/1":                                {X2: most, Y1: 1 << 31, Y2: most},
		"/01":                               {X1: 1 << 31, X2: most, Y2: 1<<31 - 1},
		"/010":                              {X1: 1 << 31, X2: most, Y2: 1<<30 - 1},
		"/0001":                             {X1: 1073741824, X2: 2147483647, Y1: 0, Y2: 1073741823},
		"/" + strings.Repeat("0", 64):       one(0, 0),
		"/" + strings.Repeat("1", 64):       one(most, most),
		"/" + strings.Repeat("1", 63):       {X1: most - 1, X2: most, Y1: most, Y2: most},
		"/" + strings.Repeat("0", 61) + "1": {X1: 2, X2: 3, Y1: 0, Y2: 1},
	} {
		l, e := label.Parse(text)
		if got, f := morton.Box(l); e != api.OK || f != api.OK || got != want {
			t.Errorf("P4.2: Box of %s: %+v, %d, want %+v", text, got, f, want)
		}
	}
}

func TestAKeysOwnLabelHasItsPointAlone(t *testing.T) {
	for _, z := range keys() {
		x, y := point(written(z))
		own := of(written(z))
		if got, e := morton.Box(own); e != api.OK || got != one(x, y) {
			t.Errorf("P4.2: Box of the own label of %d: %+v, %d", z, got, e)
		}
		for _, r := range []api.Rect{all, one(x, y), one(x+1, y), one(x, y+1), {X1: 5, X2: most - 5, Y1: 5, Y2: most - 5}} {
			if meets, holds := morton.Meets(r, own), morton.Holds(r, own); meets != has(r, x, y) || holds != has(r, x, y) {
				t.Errorf("P4.2: %+v, the own label of %d: %v, %v", r, z, meets, holds)
			}
		}
	}
}

// TestABoxHasJustTheLabelsPoints goes through all keys of small labels, and the points about them.
func TestABoxHasJustTheLabelsPoints(t *testing.T) {
	for _, bits := range bitTexts() {
		if len(bits) < 56 {
			continue
		}
		l := of(bits)
		box, _ := morton.Box(l)
		points := uint64(box.X2-box.X1+1) * uint64(box.Y2-box.Y1+1)
		if points != 1<<(64-len(bits)) {
			t.Errorf("P4.2: Box of the bits %q has %d points", bits, points)
		}
		least := number(fill(bits, "0"))
		for i := range uint64(1) << (64 - len(bits)) {
			if x, y := point(written(least + i)); !has(box, x, y) {
				t.Errorf("P4.2: Box of the bits %q has not %d, %d", bits, x, y)
			}
		}
	}
}

// beside are rectangles that end at, within or just beyond a box's sides.
func beside(b api.Rect) []api.Rect {
	var list []api.Rect
	xs := []uint32{0, b.X1 - 1, b.X1, b.X1 + 1, b.X2 - 1, b.X2, b.X2 + 1, most}
	ys := []uint32{0, b.Y1 - 1, b.Y1, b.Y1 + 1, b.Y2 - 1, b.Y2, b.Y2 + 1, most}
	for _, x1 := range xs {
		for _, x2 := range xs {
			for _, y1 := range ys {
				for _, y2 := range ys {
					if x1 <= x2 && y1 <= y2 {
						list = append(list, api.Rect{X1: x1, X2: x2, Y1: y1, Y2: y2})
					}
				}
			}
		}
	}
	return list
}

func TestMeetsAndHoldsAtEachSide(t *testing.T) {
	for _, bits := range bitTexts() {
		l, b := of(bits), boxOf(bits)
		for _, r := range append(beside(b), rightRects()...) {
			wantMeets := max(r.X1, b.X1) <= min(r.X2, b.X2) && max(r.Y1, b.Y1) <= min(r.Y2, b.Y2)
			wantHolds := has(r, b.X1, b.Y1) && has(r, b.X1, b.Y2) && has(r, b.X2, b.Y1) && has(r, b.X2, b.Y2)
			if got := morton.Meets(r, l); got != wantMeets {
				t.Errorf("P4.2: Meets(%+v) of the bits %q: %v", r, bits, got)
			}
			if got := morton.Holds(r, l); got != wantHolds {
				t.Errorf("P4.2: Holds(%+v) of the bits %q: %v", r, bits, got)
			}
		}
	}
}

// TestMeetsAndHoldsPointByPoint asks all labels within a square of 4 by 4, and all rectangles there.
func TestMeetsAndHoldsPointByPoint(t *testing.T) {
	for _, corner := range corners(4) {
		for n := 60; n <= 64; n++ {
			for i := range uint64(1) << (n - 60) {
				least := woven(corner[0], corner[1]) + i<<(64-n)
				l := api.Label{Len: n, Bits: least}
				for _, r := range rectsFrom(corner, 4) {
					some, each := false, true
					for j := range uint64(1) << (64 - n) {
						x, y := point(written(least + j))
						some, each = some || has(r, x, y), each && has(r, x, y)
					}
					if meets, holds := morton.Meets(r, l), morton.Holds(r, l); meets != some || holds != each {
						t.Errorf("P4.2: %+v, %v: meets %v, holds %v", r, l, meets, holds)
					}
				}
			}
		}
	}
}

func TestWrongLabelsHaveNoBox(t *testing.T) {
	for _, l := range wrongLabels() {
		if got, e := morton.Box(l); e != api.ErrArg || got != (api.Rect{}) {
			t.Errorf("P4.2: Box(%v) = %+v, %d, want 0, ErrArg", l, got, e)
		}
		for _, r := range append(append(rightRects(), wrongRects...), api.Rect{}) {
			if morton.Meets(r, l) || morton.Holds(r, l) {
				t.Errorf("P4.2: %+v meets or holds %v", r, l)
			}
		}
	}
}

func TestWrongRectanglesMeetAndHoldNothing(t *testing.T) {
	for _, r := range wrongRects {
		for _, bits := range bitTexts() {
			if morton.Meets(r, of(bits)) || morton.Holds(r, of(bits)) {
				t.Errorf("P4.2: %+v meets or holds the bits %q", r, bits)
			}
		}
		for _, z := range []uint64{woven(r.X1, r.Y1), woven(r.X2, r.Y2), woven(r.X1, r.Y2), woven(r.X2, r.Y1)} {
			if own := of(written(z)); morton.Meets(r, own) || morton.Holds(r, own) {
				t.Errorf("P4.2: %+v meets or holds %v", r, own)
			}
		}
	}
}

// corners are where squares of this side, a power of two, stand: about the plane's ends and its middle.
func corners(side uint32) [][2]uint32 {
	last, half := most-side+1, uint32(1<<31)
	return [][2]uint32{{0, 0}, {last, last}, {0, last}, {last, 0}, {half, half - side}, {half - side, half}, {1 << 16, 1<<20 - side}}
}

// rectsFrom are all rectangles of a square.
func rectsFrom(corner [2]uint32, side uint32) []api.Rect {
	var list []api.Rect
	for x1 := range side {
		for x2 := x1; x2 < side; x2++ {
			for y1 := range side {
				for y2 := y1; y2 < side; y2++ {
					list = append(list, api.Rect{X1: corner[0] + x1, X2: corner[0] + x2, Y1: corner[1] + y1, Y2: corner[1] + y2})
				}
			}
		}
	}
	return list
}

// keysOf are the keys of all points of a small rectangle, rising.
func keysOf(r api.Rect) []uint64 {
	var list []uint64
	for i := range r.X2 - r.X1 + 1 {
		for j := range r.Y2 - r.Y1 + 1 {
			list = append(list, woven(r.X1+i, r.Y1+j))
		}
	}
	slices.Sort(list)
	return list
}

// notBelow is the first of rising keys that is not below z.
func notBelow(rising []uint64, z uint64) (uint64, bool) {
	i, _ := slices.BinarySearch(rising, z)
	if i == len(rising) {
		return 0, false
	}
	return rising[i], true
}

func holdLeast(t *testing.T, r api.Rect, z, want uint64, found bool) {
	t.Helper()
	if got, ok := morton.Least(r, z); got != want || ok != found {
		t.Errorf("P4.3: Least(%+v, %d) = %d, %v, want %d, %v", r, z, got, ok, want, found)
	}
}

func TestLeastInAllSmallRectangles(t *testing.T) {
	const side = 8
	for _, corner := range corners(side) {
		first := woven(corner[0], corner[1])
		asked := []uint64{0, 1, first - 1, first + side*side, first + side*side + 1, 1 << 62, 1 << 63, greatest - 1, greatest}
		for i := range uint64(side * side) {
			asked = append(asked, first+i)
		}
		for _, r := range rectsFrom(corner, side) {
			rising := keysOf(r)
			for _, z := range asked {
				want, found := notBelow(rising, z)
				holdLeast(t, r, z, want, found)
			}
		}
	}
}

// TestLeastAcrossBorders has rectangles that lie on both sides of high bits' borders, so that their keys are far apart.
func TestLeastAcrossBorders(t *testing.T) {
	for _, x := range []uint32{1<<31 - 3, 1<<30 - 2, 1<<16 - 3, 3<<29 - 1, 5} {
		for _, y := range []uint32{1<<31 - 2, 1<<30 - 3, 1<<16 - 1, 5<<28 - 3, 3} {
			r := api.Rect{X1: x, X2: x + 4, Y1: y, Y2: y + 5}
			rising := keysOf(r)
			asked := keys()
			for _, z := range rising {
				asked = append(asked, z-1, z, z+1)
			}
			for _, z := range asked {
				want, found := notBelow(rising, z)
				holdLeast(t, r, z, want, found)
			}
		}
	}
}

// sought goes down the plane's quarters, lower keys first, to the least key from z on; b has the 1<<n keys from first on.
func sought(r, b api.Rect, first uint64, n int, z uint64) (uint64, bool) {
	last := first + (1<<n - 1)
	if last < z || max(r.X1, b.X1) > min(r.X2, b.X2) || max(r.Y1, b.Y1) > min(r.Y2, b.Y2) {
		return 0, false
	}
	if n == 0 || z <= first && has(r, b.X1, b.Y1) {
		return first, true
	}
	low, high := b, b
	if n%2 == 0 {
		low.Y2 = b.Y1 + (b.Y2-b.Y1)/2
		high.Y1 = low.Y2 + 1
	} else {
		low.X2 = b.X1 + (b.X2-b.X1)/2
		high.X1 = low.X2 + 1
	}
	if key, found := sought(r, low, first, n-1, z); found {
		return key, true
	}
	return sought(r, high, first+1<<(n-1), n-1, z)
}

func TestLeastInLargeRectangles(t *testing.T) {
	for _, r := range rightRects() {
		end := woven(r.X2, r.Y2)
		for _, z := range append(keys(), woven(r.X1, r.Y1), woven(r.X1, r.Y1)+1, woven(r.X2, r.Y1)+1, woven(r.X1, r.Y2)+1, end-1, end, end+1) {
			want, found := sought(r, all, 0, 64, z)
			holdLeast(t, r, z, want, found)
		}
	}
}

func TestLeastOfAKeyInTheRectangleIsItself(t *testing.T) {
	for _, z := range keys() {
		x, y := point(written(z))
		holdLeast(t, all, z, z, true)
		holdLeast(t, one(x, y), z, z, true)
		holdLeast(t, api.Rect{X1: x, X2: most, Y1: 0, Y2: y}, z, z, true)
		holdLeast(t, api.Rect{X1: 0, X2: x, Y1: y, Y2: most}, z, z, true)
	}
}

func TestLeastAtARectanglesEnds(t *testing.T) {
	for _, r := range rightRects() {
		first, last := woven(r.X1, r.Y1), woven(r.X2, r.Y2)
		holdLeast(t, r, 0, first, true)
		holdLeast(t, r, first, first, true)
		holdLeast(t, r, last, last, true)
		if last < greatest {
			holdLeast(t, r, last+1, 0, false)
			holdLeast(t, r, greatest, 0, false)
		}
	}
}

func TestKnownLeastKeys(t *testing.T) {
	r := api.Rect{X1: 1, X2: 2, Y1: 1, Y2: 2}
	for _, c := range []struct {
		r       api.Rect
		z, want uint64
		found   bool
	}{
		{r, 4, 6, true}, {r, 0, 3, true}, {r, 3, 3, true}, {r, 7, 9, true}, {r, 10, 12, true}, {r, 12, 12, true}, {r, 13, 0, false},
		{api.Rect{}, 0, 0, true}, {api.Rect{}, 1, 0, false},
		{all, greatest, greatest, true}, {one(most, most), 0, greatest, true}, {one(most, most), greatest, greatest, true},
		{one(most, 0), 0, 0x5555555555555555, true}, {one(most, 0), 0x5555555555555556, 0, false}, {one(0, most), 1 << 63, 0xaaaaaaaaaaaaaaaa, true},
	} {
		holdLeast(t, c.r, c.z, c.want, c.found)
	}
}

func TestAWrongRectangleHasNoLeastKey(t *testing.T) {
	for _, r := range wrongRects {
		for _, z := range append(keys(), woven(r.X1, r.Y1), woven(r.X2, r.Y2), woven(r.X1, r.Y2), woven(r.X2, r.Y1)) {
			holdLeast(t, r, z, 0, false)
		}
	}
}

func TestWhatIsWovenComesApart(t *testing.T) {
	for _, x := range numbers() {
		for _, y := range numbers() {
			if a, b := morton.Apart(morton.Weave(x, y)); a != x || b != y {
				t.Errorf("P4.4: %d, %d is woven, and comes apart as %d, %d", x, y, a, b)
			}
		}
	}
	for _, z := range keys() {
		if got := morton.Weave(morton.Apart(z)); got != z {
			t.Errorf("P4.4: %d comes apart, and is woven to %d", z, got)
		}
	}
}

func TestABoxIsThatOfItsChildrenTogether(t *testing.T) {
	for _, bits := range bitTexts() {
		if len(bits) == 64 {
			continue
		}
		l := of(bits)
		left, _ := label.Child(l, 0)
		right, _ := label.Child(l, 1)
		whole, e := morton.Box(l)
		low, f := morton.Box(left)
		high, g := morton.Box(right)
		if e != api.OK || f != api.OK || g != api.OK {
			t.Fatalf("P4.4: the bits %q: %d, %d, %d", bits, e, f, g)
		}
		// A bit at an even place of the text is y's: the children lie one above the other, else side by side.
		joined := api.Rect{X1: low.X1, X2: high.X2, Y1: low.Y1, Y2: high.Y2}
		stacked := low.X1 == high.X1 && low.X2 == high.X2 && low.Y2 < high.Y1 && low.Y2+1 == high.Y1
		abreast := low.Y1 == high.Y1 && low.Y2 == high.Y2 && low.X2 < high.X1 && low.X2+1 == high.X1
		if whole != joined || stacked != (len(bits)%2 == 0) || abreast != (len(bits)%2 == 1) {
			t.Errorf("P4.4: the bits %q: %+v, of its children %+v and %+v", bits, whole, low, high)
		}
	}
}

// told are the keys that Least tells, one behind the other, up to so many.
func told(r api.Rect, bound int) []uint64 {
	var list []uint64
	z, found := morton.Least(r, 0)
	for found && len(list) < bound {
		list = append(list, z)
		if z == greatest {
			break
		}
		z, found = morton.Least(r, z+1)
	}
	return list
}

func TestLeastKeysOneBehindTheOtherAreAll(t *testing.T) {
	list := []api.Rect{{X1: 3, X2: 40, Y1: 7, Y2: 21}, {X2: 63, Y2: 63}, {X1: 1<<31 - 9, X2: 1<<31 + 9, Y1: 1<<31 - 9, Y2: 1<<31 + 9}, {X1: most - 30, X2: most, Y1: most - 20, Y2: most}, one(most, most), one(0, 0), {X2: 99}, {Y1: most - 99, Y2: most}}
	for _, corner := range corners(4) {
		list = append(list, rectsFrom(corner, 4)...)
	}
	for _, r := range list {
		want := keysOf(r)
		if got := told(r, len(want)+1); !slices.Equal(got, want) {
			t.Errorf("P4.4: %+v: %d keys, want %d: %v, want %v", r, len(got), len(want), got, want)
		}
	}
	for _, r := range wrongRects {
		if got := told(r, 1); len(got) != 0 {
			t.Errorf("P4.4: %+v: %v", r, got)
		}
	}
}

package label_test

import (
	"crypto/sha1"
	"fmt"
	"math"
	"math/rand"
	"slices"
	"strconv"
	"strings"
	"testing"

	"espalier/api"
	"espalier/ident"
	"espalier/label"
)

const greatest = math.MaxUint64

// The tests hold labels against texts of 0 and 1: a label has such a text as its bits, and covers the keys whose texts of 64 bits begin with it.

// fill is the number that begins with these bits, and goes on with the last ones, up to 64.
func fill(bits, last string) uint64 {
	v, err := strconv.ParseUint(bits+strings.Repeat(last, 64-len(bits)), 2, 64)
	if err != nil {
		panic(err)
	}
	return v
}

func of(bits string) api.Label {
	return api.Label{Len: len(bits), Bits: fill(bits, "0")}
}

func written(key uint64) string { return fmt.Sprintf("%064b", key) }

// turned is bits with the last one turned.
func turned(bits string) string {
	head, last := bits[:len(bits)-1], bits[len(bits)-1:]
	if last == "0" {
		return head + "1"
	}
	return head + "0"
}

// bitTexts are all bits of few places, and of each length the least one, the greatest one, and some in between.
func bitTexts() []string {
	list := []string{""}
	for n := 1; n <= 5; n++ {
		for v := range 1 << n {
			list = append(list, fmt.Sprintf("%0*b", n, v))
		}
	}
	source := rand.New(rand.NewSource(1))
	for n := 6; n <= 64; n++ {
		list = append(list, strings.Repeat("0", n), strings.Repeat("1", n))
		list = append(list, strings.Repeat("0", n-1)+"1", strings.Repeat("1", n-1)+"0")
		list = append(list, strings.Repeat("10", n)[:n], written(source.Uint64())[:n])
	}
	return list
}

// someTexts are fewer, for pairs of them.
func someTexts() []string {
	var list []string
	for _, bits := range bitTexts() {
		if slices.Contains([]int{0, 1, 2, 3, 31, 32, 33, 62, 63, 64}, len(bits)) {
			list = append(list, bits)
		}
	}
	return list
}

func keys() []uint64 {
	list := []uint64{0, 1, 2, 3, greatest, greatest - 1, greatest - 2}
	for k := 1; k < 64; k += 2 {
		list = append(list, 1<<k, 1<<k-1, 1<<k+1, greatest-1<<k)
	}
	source := rand.New(rand.NewSource(2))
	for range 20 {
		list = append(list, source.Uint64())
	}
	return list
}

// near are keys about a label's borders, and any.
func near(bits string) []uint64 {
	lo, hi := fill(bits, "0"), fill(bits, "1")
	return append(keys(), lo, lo-1, lo+1, hi, hi-1, hi+1, lo+(hi-lo)/2, lo+(hi-lo)/2+1)
}

// wrongLengths are numbers of bits that no label has.
var wrongLengths = []int{-1, -2, -63, -64, -65, math.MinInt32, math.MinInt, math.MinInt + 1, 65, 66, 127, 128, 256, 1 << 32, 1<<32 + 1, math.MaxInt32, math.MaxInt}

// wrongLabels have a length that none has, or bits behind their last one.
func wrongLabels() []api.Label {
	var list []api.Label
	for _, n := range wrongLengths {
		list = append(list, api.Label{Len: n}, api.Label{Len: n, Bits: 1}, api.Label{Len: n, Bits: 1 << 63}, api.Label{Len: n, Bits: greatest})
	}
	for n := range 64 {
		first := uint64(1) << (63 - n)
		list = append(list, api.Label{Len: n, Bits: first}, api.Label{Len: n, Bits: 1}, api.Label{Len: n, Bits: greatest}, api.Label{Len: n, Bits: 2*first - 1})
	}
	return list
}

func TestIsOfRightLabels(t *testing.T) {
	for _, bits := range bitTexts() {
		if !label.Is(of(bits)) {
			t.Errorf("P3.1: Is of the bits %q is false", bits)
		}
	}
	for _, l := range []api.Label{{}, {Len: 1}, {Len: 1, Bits: 1 << 63}, {Len: 2, Bits: 3 << 62}, {Len: 63, Bits: greatest - 1}, {Len: 64, Bits: greatest}, {Len: 64, Bits: 1}, {Len: 64}} {
		if !label.Is(l) {
			t.Errorf("P3.1: Is(%v) is false", l)
		}
	}
}

func TestIsOfWrongLabels(t *testing.T) {
	for _, l := range wrongLabels() {
		if label.Is(l) {
			t.Errorf("P3.1: Is(%v) is true", l)
		}
	}
}

func TestOfHasTheKeysHighestBits(t *testing.T) {
	for _, key := range keys() {
		for n := 0; n <= 64; n++ {
			if got, e := label.Of(key, n); e != api.OK || got != of(written(key)[:n]) {
				t.Errorf("P3.1: Of(%d, %d) = %v, %d", key, n, got, e)
			}
		}
	}
}

func TestOfWrongLengths(t *testing.T) {
	for _, key := range keys() {
		for _, n := range wrongLengths {
			if got, e := label.Of(key, n); e != api.ErrArg || got != (api.Label{}) {
				t.Errorf("P3.1: Of(%d, %d) = %v, %d, want 0, ErrArg", key, n, got, e)
			}
		}
	}
}

func TestCoversKeysThatBeginSo(t *testing.T) {
	for _, bits := range bitTexts() {
		for _, key := range near(bits) {
			want := strings.HasPrefix(written(key), bits)
			if got := label.Covers(of(bits), key); got != want {
				t.Errorf("P3.1: Covers of the bits %q, %d: %v", bits, key, got)
			}
		}
	}
}

func TestWithinIsToBeginSo(t *testing.T) {
	for _, l := range someTexts() {
		for _, m := range someTexts() {
			if got := label.Within(of(l), of(m)); got != strings.HasPrefix(l, m) {
				t.Errorf("P3.1: Within of the bits %q, %q: %v", l, m, got)
			}
		}
	}
}

func TestWrongLabelsCoverNothingAndAreNowhereWithin(t *testing.T) {
	for _, l := range wrongLabels() {
		for _, key := range append(keys(), l.Bits) {
			if label.Covers(l, key) {
				t.Errorf("P3.1: Covers(%v, %d) is true", l, key)
			}
		}
		if label.Within(l, l) {
			t.Errorf("P3.1: Within(%v, %v) is true", l, l)
		}
		for _, bits := range someTexts() {
			m := of(bits)
			if label.Within(l, m) || label.Within(m, l) {
				t.Errorf("P3.1: %v is within %v, or the other way round", l, m)
			}
		}
	}
}

func TestChildHasOneBitMore(t *testing.T) {
	for _, bits := range bitTexts() {
		for bit, more := range []string{"0", "1"} {
			got, e := label.Child(of(bits), bit)
			if len(bits) == 64 {
				if e != api.ErrRange || got != (api.Label{}) {
					t.Errorf("P3.2: Child of the bits %q, %d: %v, %d, want 0, ErrRange", bits, bit, got, e)
				}
			} else if e != api.OK || got != of(bits+more) {
				t.Errorf("P3.2: Child of the bits %q, %d: %v, %d", bits, bit, got, e)
			}
		}
	}
}

func TestChildOfWrongBits(t *testing.T) {
	for _, bits := range bitTexts() {
		for _, bit := range []int{-1, -2, 2, 3, '0', '1', 256, 257, 1 << 32, 1<<32 + 1, math.MinInt, math.MinInt + 1, math.MaxInt} {
			if got, e := label.Child(of(bits), bit); e != api.ErrArg || got != (api.Label{}) {
				t.Errorf("P3.2: Child of the bits %q, %d: %v, %d, want 0, ErrArg", bits, bit, got, e)
			}
		}
	}
}

func TestParentAndSibling(t *testing.T) {
	for _, bits := range bitTexts() {
		if bits == "" {
			continue
		}
		if got, e := label.Parent(of(bits)); e != api.OK || got != of(bits[:len(bits)-1]) {
			t.Errorf("P3.2: Parent of the bits %q: %v, %d", bits, got, e)
		}
		if got, e := label.Sibling(of(bits)); e != api.OK || got != of(turned(bits)) {
			t.Errorf("P3.2: Sibling of the bits %q: %v, %d", bits, got, e)
		}
	}
}

func TestTheRootHasNoParentAndNoSibling(t *testing.T) {
	if got, e := label.Parent(api.Label{}); e != api.ErrNone || got != (api.Label{}) {
		t.Errorf("P3.2: Parent of the root: %v, %d, want 0, ErrNone", got, e)
	}
	if got, e := label.Sibling(api.Label{}); e != api.ErrNone || got != (api.Label{}) {
		t.Errorf("P3.2: Sibling of the root: %v, %d, want 0, ErrNone", got, e)
	}
}

func TestSpanAndNext(t *testing.T) {
	for _, bits := range bitTexts() {
		wantLo, wantHi := fill(bits, "0"), fill(bits, "1")
		lo, hi, e := label.Span(of(bits))
		if e != api.OK || lo != wantLo || hi != wantHi {
			t.Errorf("P3.2: Span of the bits %q: %d, %d, %d", bits, lo, hi, e)
		}
		// Labels without a 0 cover the greatest key, behind which there is none.
		wantNext, wantMore := wantHi+1, strings.Contains(bits, "0")
		if next, more := label.Next(of(bits)); next != wantNext || more != wantMore {
			t.Errorf("P3.2: Next of the bits %q: %d, %v", bits, next, more)
		}
	}
}

func TestKnownSpans(t *testing.T) {
	for _, c := range []struct {
		l            api.Label
		lo, hi, next uint64
		more         bool
	}{
		{api.Label{}, 0, greatest, 0, false},
		{api.Label{Len: 1}, 0, 9223372036854775807, 9223372036854775808, true},
		{api.Label{Len: 1, Bits: 1 << 63}, 9223372036854775808, greatest, 0, false},
		{api.Label{Len: 63, Bits: greatest - 3}, greatest - 3, greatest - 2, greatest - 1, true},
		{api.Label{Len: 63, Bits: greatest - 1}, greatest - 1, greatest, 0, false},
		{api.Label{Len: 64}, 0, 0, 1, true},
		{api.Label{Len: 64, Bits: greatest - 1}, greatest - 1, greatest - 1, greatest, true},
		{api.Label{Len: 64, Bits: greatest}, greatest, greatest, 0, false},
	} {
		if lo, hi, e := label.Span(c.l); e != api.OK || lo != c.lo || hi != c.hi {
			t.Errorf("P3.2: Span(%v) = %d, %d, %d", c.l, lo, hi, e)
		}
		if next, more := label.Next(c.l); next != c.next || more != c.more {
			t.Errorf("P3.2: Next(%v) = %d, %v", c.l, next, more)
		}
	}
}

func TestTheChaptersExample(t *testing.T) {
	l, e := label.Parse("/01")
	if e != api.OK || l != (api.Label{Len: 2, Bits: 1 << 62}) {
		t.Fatalf("P3.3: Parse(/01) = %v, %d", l, e)
	}
	if lo, hi, e := label.Span(l); e != api.OK || lo != 4611686018427387904 || hi != 9223372036854775807 {
		t.Errorf("P3.2: Span of /01: %d, %d, %d", lo, hi, e)
	}
	parent, _ := label.Parent(l)
	if s, e := label.Text(parent); e != api.OK || s != "/0" {
		t.Errorf("P3.2: the parent of /01: %q, %d", s, e)
	}
	sibling, _ := label.Sibling(l)
	if s, e := label.Text(sibling); e != api.OK || s != "/00" {
		t.Errorf("P3.2: the sibling of /01: %q, %d", s, e)
	}
}

func TestOfWrongLabelsNothingIsTold(t *testing.T) {
	for _, l := range wrongLabels() {
		for _, bit := range []int{0, 1, -1, 2} {
			if got, e := label.Child(l, bit); e != api.ErrArg || got != (api.Label{}) {
				t.Errorf("P3.2: Child(%v, %d) = %v, %d, want 0, ErrArg", l, bit, got, e)
			}
		}
		if got, e := label.Parent(l); e != api.ErrArg || got != (api.Label{}) {
			t.Errorf("P3.2: Parent(%v) = %v, %d, want 0, ErrArg", l, got, e)
		}
		if got, e := label.Sibling(l); e != api.ErrArg || got != (api.Label{}) {
			t.Errorf("P3.2: Sibling(%v) = %v, %d, want 0, ErrArg", l, got, e)
		}
		if lo, hi, e := label.Span(l); e != api.ErrArg || lo != 0 || hi != 0 {
			t.Errorf("P3.2: Span(%v) = %d, %d, %d, want 0, 0, ErrArg", l, lo, hi, e)
		}
		if next, more := label.Next(l); next != 0 || more {
			t.Errorf("P3.2: Next(%v) = %d, %v, want 0, false", l, next, more)
		}
		if got, e := label.Text(l); e != api.ErrArg || got != "" {
			t.Errorf("P3.3: Text(%v) = %q, %d, want none, ErrArg", l, got, e)
		}
		if got, e := label.Place(l); e != api.ErrArg || got != (api.ID{}) {
			t.Errorf("P3.3: Place(%v) = %x, %d, want 0, ErrArg", l, got, e)
		}
	}
}

func TestTextIsASlashAndTheBits(t *testing.T) {
	for _, bits := range bitTexts() {
		if got, e := label.Text(of(bits)); e != api.OK || got != "/"+bits {
			t.Errorf("P3.3: Text of the bits %q: %q, %d", bits, got, e)
		}
	}
}

func TestParseReadsWhatIsWritten(t *testing.T) {
	for _, bits := range bitTexts() {
		if got, e := label.Parse("/" + bits); e != api.OK || got != of(bits) {
			t.Errorf("P3.3: Parse(/%s) = %v, %d", bits, got, e)
		}
	}
}

func TestParseOfWhatIsNoLabelsText(t *testing.T) {
	list := []string{
		"", "0", "1", "01", "0/", "01/", "//", "//01", "/01/", "/0/1", "\\01", "|01", ".", " ", " /01", "/01 ", "/ 01", "/0 1", "/01\n", "\n/01", "\x00", "/\x00", "/01\x00",
		"/2", "/02", "/a", "/0a", "/O", "/l", "/-1", "/+1", "/0b1", "/0x1", "/1_0", "/./", "/.0", "/1e1", "pht/", "pht/01", "root", "/root",
		// Runes that are other digits or slashes, or have a bit's or a slash's lowest byte.
		"/\u0660", "/\u0661", "/\uff10", "/\uff11", "/\u0130", "/\u0131", "/\U00010030", "/\U00010031", "\u2215", "\u221501", "\uff0f01", "\u012f01",
		// Bytes that are no runes.
		"/\xff", "/0\x80", "/\xc0\xb0", "/\xc0\xb1", "\xff/01", "\xaf01", "/01\xe2\x82",
		strings.Repeat("0", 64), strings.Repeat("1", 65), "/" + strings.Repeat("0", 64) + "/", "/" + strings.Repeat("1", 64) + " ",
	}
	for _, n := range []int{65, 66, 127, 128, 129, 256, 4096, 1 << 20} {
		list = append(list, "/"+strings.Repeat("0", n), "/"+strings.Repeat("1", n), "/"+strings.Repeat("01", n)[:n])
	}
	for r := rune(0); r < 0x400; r++ {
		if r != '0' && r != '1' {
			list = append(list, "/"+string(r), "/01"+string(r), "/"+string(r)+"10", "/"+strings.Repeat("1", 63)+string(r))
		}
		if r != '/' {
			list = append(list, string(r), string(r)+"01")
		}
	}
	for _, s := range list {
		if got, e := label.Parse(s); e != api.ErrForm || got != (api.Label{}) {
			t.Errorf("P3.3: Parse of %d bytes, %.80q: %v, %d, want 0, ErrForm", len(s), s, got, e)
		}
	}
}

func TestPlaceIsTheSumOfItsText(t *testing.T) {
	for _, bits := range bitTexts() {
		want := api.ID(sha1.Sum([]byte("pht/" + bits)))
		if got, e := label.Place(of(bits)); e != api.OK || got != want {
			t.Errorf("P3.3: Place of the bits %q: %x, %d, want %x", bits, got, e, want)
		}
	}
}

func TestKnownPlaces(t *testing.T) {
	for bits, want := range map[string]string{
		"":                      "fa828109f307367e2bd5a984b7ab3ec937d8dbf2",
		"0":                     "e07048c00dfd570ba87e03d1d641a954a1cf990f",
		"1":                     "c96ea340c45623f5447e952819639939288a03f3",
		"01":                    "91bebbdc4d161be094403f54039d9d5a431aab13",
		"101":                   "1086ffe2e4047ef78634ac366da3b7c90408026c",
		strings.Repeat("0", 64): "957bb93ccdacee5df783b0efe546ff130cb4447a",
		strings.Repeat("1", 64): "0263dab66f065f57e731f42ec945c951964767e8",
	} {
		if got, e := label.Place(of(bits)); e != api.OK || ident.Text(got) != want {
			t.Errorf("P3.3: Place of the bits %q: %x, %d, want %s", bits, got, e, want)
		}
	}
}

func TestALabelCoversWhatItsChildrenCover(t *testing.T) {
	for _, bits := range bitTexts() {
		if len(bits) == 64 {
			continue
		}
		l := of(bits)
		left, _ := label.Child(l, 0)
		right, _ := label.Child(l, 1)
		for _, key := range near(bits) {
			inLeft, inRight := label.Covers(left, key), label.Covers(right, key)
			if label.Covers(l, key) != (inLeft || inRight) || inLeft && inRight {
				t.Errorf("P3.4: the bits %q, %d: %v, its children's: %v, %v", bits, key, label.Covers(l, key), inLeft, inRight)
			}
		}
		lo, hi, _ := label.Span(l)
		leftLo, leftHi, _ := label.Span(left)
		rightLo, rightHi, _ := label.Span(right)
		if leftLo != lo || leftHi+1 != rightLo || rightHi != hi || leftHi < leftLo || rightHi < rightLo {
			t.Errorf("P3.4: the bits %q: %d to %d, its children: %d to %d, %d to %d", bits, lo, hi, leftLo, leftHi, rightLo, rightHi)
		}
	}
}

func TestAKeysOwnLabelCoversItAlone(t *testing.T) {
	for _, key := range keys() {
		own, e := label.Of(key, 64)
		if lo, hi, f := label.Span(own); e != api.OK || f != api.OK || lo != key || hi != key {
			t.Errorf("P3.4: %d: its own label covers %d to %d", key, lo, hi)
		}
		for _, other := range keys() {
			if label.Covers(own, other) != (key == other) {
				t.Errorf("P3.4: the own label of %d, %d: %v", key, other, label.Covers(own, other))
			}
		}
	}
}

func TestKeysInCommonAreOneWithinTheOther(t *testing.T) {
	for _, a := range someTexts() {
		for _, b := range someTexts() {
			l, m := of(a), of(b)
			loL, hiL, _ := label.Span(l)
			loM, hiM, _ := label.Span(m)
			common := loL <= hiM && loM <= hiL
			if within := label.Within(l, m) || label.Within(m, l); within != common {
				t.Errorf("P3.4: %v and %v: keys in common: %v, one within the other one: %v", l, m, common, within)
			}
			if label.Within(l, m) && label.Within(m, l) && l != m {
				t.Errorf("P3.4: %v and %v are within each other", l, m)
			}
		}
	}
}

func TestShortLabelsStandSideBySide(t *testing.T) {
	for n := range 11 {
		key, count := uint64(0), 0
		for more := true; more; count++ {
			l, e := label.Of(key, n)
			lo, hi, f := label.Span(l)
			if e != api.OK || f != api.OK || lo != key || hi < lo || count >= 1<<n {
				t.Fatalf("P3.4: of %d bits: %v covers %d to %d, and does not begin at %d", n, l, lo, hi, key)
			}
			key, more = label.Next(l)
			if !more && hi != greatest {
				t.Errorf("P3.4: of %d bits: none is behind %d", n, hi)
			}
		}
		if count != 1<<n {
			t.Errorf("P3.4: of %d bits: %d labels", n, count)
		}
	}
}

func TestLabelsOfEachLengthStandSideBySide(t *testing.T) {
	for n := 0; n <= 64; n++ {
		least, _ := label.Of(0, n)
		last, _ := label.Of(greatest, n)
		if lo, _, _ := label.Span(least); lo != 0 {
			t.Errorf("P3.4: the least label of %d bits begins at %d", n, lo)
		}
		if _, hi, _ := label.Span(last); hi != greatest {
			t.Errorf("P3.4: the greatest label of %d bits ends at %d", n, hi)
		}
		for _, key := range keys() {
			l, _ := label.Of(key, n)
			if !label.Covers(l, key) {
				t.Errorf("P3.4: %d is not covered by its label of %d bits", key, n)
			}
			next, more := label.Next(l)
			if more != (l != last) {
				t.Errorf("P3.4: Next(%v) = %d, %v", l, next, more)
			}
			if !more {
				continue
			}
			behind, _ := label.Of(next, n)
			if lo, _, _ := label.Span(behind); lo != next || label.Covers(l, next) || label.Covers(behind, key) || !label.Covers(l, next-1) {
				t.Errorf("P3.4: %v and %v do not stand side by side", l, behind)
			}
		}
	}
}

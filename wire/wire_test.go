package wire_test

import (
	"fmt"
	"math"
	"math/big"
	"math/rand"
	"strconv"
	"strings"
	"testing"

	"espalier/api"
	"espalier/wire"
)

const greatest = math.MaxUint64

// The tests hold bytes against those of their own: a number's are told by math/big, a label's by texts of 0 and 1.

func numberBytes(v uint64) string {
	digits := new(big.Int).SetUint64(v).Bytes()
	return string([]byte{byte(len(digits))}) + string(digits)
}

func textBytes(s string) string { return numberBytes(uint64(len(s))) + s }

func placeBytes(p api.ID) string {
	var s strings.Builder
	for _, b := range p {
		s.WriteByte(b)
	}
	return s.String()
}

// labelBytes has a label's bits filled up with noughts, and cut into eights.
func labelBytes(bits string) string {
	s := []byte{byte(len(bits))}
	for bits != "" {
		eight := (bits + "0000000")[:8]
		v, err := strconv.ParseUint(eight, 2, 8)
		if err != nil {
			panic(err)
		}
		s = append(s, byte(v))
		bits = bits[min(8, len(bits)):]
	}
	return string(s)
}

func of(bits string) api.Label {
	v, err := strconv.ParseUint(bits+strings.Repeat("0", 64-len(bits)), 2, 64)
	if err != nil {
		panic(err)
	}
	return api.Label{Len: len(bits), Bits: v}
}

// begins are what bytes may be put behind: any, none, and more than a text may have.
var begins = []string{"", "a", "\x00", "\xff\xfe", "\x02\x01\x02\x01\x01", strings.Repeat("\x80", 5000)}

// numbers are the edges at which a number has a byte more, and some in between.
func numbers() []uint64 {
	list := []uint64{0, 1, 2, 5, 127, 128, 255, 256, 257, 258, 4095, 4096, 4097, greatest - 1, greatest}
	for k := 1; k < 64; k++ {
		list = append(list, 1<<k-1, 1<<k, 1<<k+1, greatest-1<<k)
	}
	source := rand.New(rand.NewSource(1))
	for k := range 64 {
		list = append(list, source.Uint64()>>k)
	}
	return list
}

// texts are of many lengths, and of any bytes: noughts, what is no rune, and what looks like bytes of its own.
func texts() []string {
	list := []string{"", "a", "ab", "\x00", "\xff", "\x01\x01", "\x80\xc0\xaf", "\u00e9\U0001f333", strings.Repeat("\x00", 4096), strings.Repeat("\xff", 4096)}
	source := rand.New(rand.NewSource(2))
	for _, n := range []int{1, 2, 3, 7, 8, 9, 64, 127, 128, 254, 255, 256, 257, 1000, 4094, 4095, 4096} {
		list = append(list, anyBytes(source, n))
	}
	return list
}

func anyBytes(source *rand.Rand, n int) string {
	s := make([]byte, n)
	source.Read(s)
	return string(s)
}

func places() []api.ID {
	list := []api.ID{{}, {19: 1}, {0: 1}, {0: 255, 19: 255}}
	var counted, full api.ID
	for i := range counted {
		counted[i], full[i] = byte(i+1), 255
	}
	list = append(list, counted, full)
	source := rand.New(rand.NewSource(3))
	for range 20 {
		list = append(list, api.ID([]byte(anyBytes(source, 20))))
	}
	return list
}

// bitTexts are all of few bits, and of each length the least one, the greatest one, and some in between.
func bitTexts() []string {
	list := []string{"", "101"}
	for n := 1; n <= 5; n++ {
		for v := range 1 << n {
			list = append(list, fmt.Sprintf("%0*b", n, v))
		}
	}
	source := rand.New(rand.NewSource(4))
	for n := 6; n <= 64; n++ {
		list = append(list, strings.Repeat("0", n), strings.Repeat("1", n), strings.Repeat("0", n-1)+"1", strings.Repeat("1", n-1)+"0")
		list = append(list, fmt.Sprintf("%064b", source.Uint64())[:n])
	}
	return list
}

// wrongLabels have a length that none has, or bits behind their last one.
func wrongLabels() []api.Label {
	list := []api.Label{{Len: -1}} // the one that records have where there is no next leaf
	for _, n := range []int{-1, -2, -64, math.MinInt, 65, 66, 72, 128, 256, 257, 1 << 32, math.MaxInt} {
		list = append(list, api.Label{Len: n}, api.Label{Len: n, Bits: 1}, api.Label{Len: n, Bits: 1 << 63}, api.Label{Len: n, Bits: greatest})
	}
	for n := range 64 {
		list = append(list, api.Label{Len: n, Bits: 1}, api.Label{Len: n, Bits: 1 << (63 - n)}, api.Label{Len: n, Bits: greatest})
	}
	return list
}

// A kind is one of the four that are put and read; none is what stands beside an error.
type kind struct {
	name string
	none any
	read func(r *wire.Reader) (any, api.Errno)
	put  func(b string, v any) (string, api.Errno)
	told func(s string) (any, int, api.Errno)
}

var kinds = []kind{
	{"Number", uint64(0),
		func(r *wire.Reader) (any, api.Errno) { v, e := r.Number(); return v, e },
		func(b string, v any) (string, api.Errno) { return wire.PutNumber(b, v.(uint64)), api.OK },
		func(s string) (any, int, api.Errno) { v, n, e := toldNumber(s); return v, n, e }},
	{"Text", "",
		func(r *wire.Reader) (any, api.Errno) { v, e := r.Text(); return v, e },
		func(b string, v any) (string, api.Errno) { return wire.PutText(b, v.(string)) },
		toldText},
	{"Place", api.ID{},
		func(r *wire.Reader) (any, api.Errno) { v, e := r.Place(); return v, e },
		func(b string, v any) (string, api.Errno) { return wire.PutPlace(b, v.(api.ID)), api.OK },
		toldPlace},
	{"Label", api.Label{},
		func(r *wire.Reader) (any, api.Errno) { v, e := r.Label(); return v, e },
		func(b string, v any) (string, api.Errno) { return wire.PutLabel(b, v.(api.Label)) },
		toldLabel},
}

var number, text, place, lab = kinds[0], kinds[1], kinds[2], kinds[3]

// toldNumber and those behind it read anything, as the chapter's words have it: what it tells, of how many bytes, or what is wrong.
func toldNumber(s string) (uint64, int, api.Errno) {
	if s == "" {
		return 0, 0, api.ErrMore
	}
	n := 1 + int(s[0])
	if n > 9 {
		return 0, 0, api.ErrForm
	}
	if len(s) < n {
		return 0, 0, api.ErrMore
	}
	v := new(big.Int).SetBytes([]byte(s[1:n])).Uint64()
	if numberBytes(v) != s[:n] {
		return 0, 0, api.ErrForm
	}
	return v, n, api.OK
}

func toldText(s string) (any, int, api.Errno) {
	v, n, e := toldNumber(s)
	if e != api.OK {
		return "", 0, e
	}
	if v > 4096 {
		return "", 0, api.ErrForm
	}
	if len(s[n:]) < int(v) {
		return "", 0, api.ErrMore
	}
	return s[n:][:v], n + int(v), api.OK
}

func toldPlace(s string) (any, int, api.Errno) {
	if len(s) < 20 {
		return api.ID{}, 0, api.ErrMore
	}
	return api.ID([]byte(s[:20])), 20, api.OK
}

func toldLabel(s string) (any, int, api.Errno) {
	if s == "" {
		return api.Label{}, 0, api.ErrMore
	}
	length := int(s[0])
	if length > 64 {
		return api.Label{}, 0, api.ErrForm
	}
	var bits strings.Builder
	for i := 1; bits.Len() < length; i++ {
		if i == len(s) {
			return api.Label{}, 0, api.ErrMore
		}
		fmt.Fprintf(&bits, "%08b", s[i])
	}
	if strings.Contains(bits.String()[length:], "1") {
		return api.Label{}, 0, api.ErrForm
	}
	return of(bits.String()[:length]), 1 + bits.Len()/8, api.OK
}

// A sample is a value, and its bytes.
type sample struct {
	kind  kind
	value any
	bytes string
}

func samples() []sample {
	var list []sample
	for _, v := range numbers() {
		list = append(list, sample{number, v, numberBytes(v)})
	}
	for _, s := range texts() {
		list = append(list, sample{text, s, textBytes(s)})
	}
	for _, p := range places() {
		list = append(list, sample{place, p, placeBytes(p)})
	}
	for _, bits := range bitTexts() {
		list = append(list, sample{lab, of(bits), labelBytes(bits)})
	}
	return list
}

// holdOK asks for a value that comes next, and how many bytes are left behind it.
func holdOK(t *testing.T, r *wire.Reader, k kind, want any, left int) {
	t.Helper()
	if v, e := k.read(r); e != api.OK || v != want {
		t.Errorf("P5.3: %s: %.60q, %d, want %.60q", k.name, fmt.Sprint(v), e, fmt.Sprint(want))
	}
	if n := r.Left(); n != left {
		t.Errorf("P5.2: %s of %.60q: %d bytes left, want %d", k.name, fmt.Sprint(want), n, left)
	}
}

// holdError asks for an error, time and again: beside it is nothing, and nothing is read.
func holdError(t *testing.T, r *wire.Reader, k kind, want api.Errno) {
	t.Helper()
	left := r.Left()
	for range 2 {
		if v, e := k.read(r); e != want || v != k.none {
			t.Errorf("P5.3: %s: %.60q, %d, want nothing, %d", k.name, fmt.Sprint(v), e, want)
		}
		if n := r.Left(); n != left {
			t.Errorf("P5.3: %s: %d bytes left behind an error, want %d", k.name, n, left)
		}
	}
}

// holdBad asks for an error of bytes, at a reader's beginning and behind something that was read; behind the error both are read as if it had not been asked for.
func holdBad(t *testing.T, k kind, s string, want api.Errno) {
	t.Helper()
	for _, ahead := range []string{"", "\x00", "\x08\x01\x02\x03\x04\x05\x06\x07\x08"} {
		r := wire.New(ahead + s)
		if ahead != "" {
			v, _, _ := toldNumber(ahead)
			holdOK(t, r, number, v, len(s))
		}
		holdError(t, r, k, want)
		for _, other := range kinds {
			if v, n, e := other.told(s); e == api.OK {
				holdOK(t, r, other, v, len(s)-n)
				break
			}
		}
	}
}

func TestPutNumber(t *testing.T) {
	for _, v := range numbers() {
		for _, b := range begins {
			if got := wire.PutNumber(b, v); got != b+numberBytes(v) {
				t.Errorf("P5.1: PutNumber(%.20q, %d) = %q", b, v, got)
			}
		}
	}
}

func TestKnownBytes(t *testing.T) {
	for v, want := range map[uint64]string{0: "\x00", 1: "\x01\x01", 5: "\x01\x05", 255: "\x01\xff", 256: "\x02\x01\x00", 258: "\x02\x01\x02", 65535: "\x02\xff\xff", 65536: "\x03\x01\x00\x00", 1<<56 - 1: "\x07\xff\xff\xff\xff\xff\xff\xff", 1 << 56: "\x08\x01\x00\x00\x00\x00\x00\x00\x00", greatest: "\x08\xff\xff\xff\xff\xff\xff\xff\xff"} {
		if got := wire.PutNumber("", v); got != want {
			t.Errorf("P5.1: PutNumber of %d: %q", v, got)
		}
		holdOK(t, wire.New(want), number, v, 0)
	}
	for s, want := range map[string]string{"": "\x00", "ab": "\x01\x02ab", "\x00": "\x01\x01\x00", strings.Repeat("a", 256): "\x02\x01\x00" + strings.Repeat("a", 256), strings.Repeat("a", 4096): "\x02\x10\x00" + strings.Repeat("a", 4096)} {
		if got, e := wire.PutText("", s); e != api.OK || got != want {
			t.Errorf("P5.1: PutText of %.20q: %.20q, %d", s, got, e)
		}
		holdOK(t, wire.New(want), text, s, 0)
	}
	for bits, want := range map[string]string{"": "\x00", "0": "\x01\x00", "1": "\x01\x80", "101": "\x03\xa0", "00000111": "\x08\x07", "000000000": "\x09\x00\x00", "111111111": "\x09\xff\x80", strings.Repeat("1", 63): "\x3f\xff\xff\xff\xff\xff\xff\xff\xfe", strings.Repeat("0", 63) + "1": "\x40\x00\x00\x00\x00\x00\x00\x00\x01"} {
		if got, e := wire.PutLabel("", of(bits)); e != api.OK || got != want {
			t.Errorf("P5.1: PutLabel of the bits %q: %q, %d", bits, got, e)
		}
		holdOK(t, wire.New(want), lab, of(bits), 0)
	}
	counted := "\x01\x02\x03\x04\x05\x06\x07\x08\x09\x0a\x0b\x0c\x0d\x0e\x0f\x10\x11\x12\x13\xff"
	if got := wire.PutPlace("", api.ID([]byte(counted))); got != counted {
		t.Errorf("P5.1: PutPlace: %q", got)
	}
}

func TestPutText(t *testing.T) {
	for _, s := range texts() {
		for _, b := range begins {
			if got, e := wire.PutText(b, s); e != api.OK || got != b+textBytes(s) {
				t.Errorf("P5.1: PutText(%.20q, %.20q) = %.40q, %d", b, s, got, e)
			}
		}
	}
}

func TestPutTextOfTooManyBytes(t *testing.T) {
	for _, n := range []int{4097, 4098, 5000, 65535, 65536, 65537, 1 << 20} {
		for _, b := range begins {
			if got, e := wire.PutText(b, strings.Repeat("a", n)); e != api.ErrLimit || got != "" {
				t.Errorf("P5.1: PutText(%.20q) of %d bytes: %.20q, %d, want none, ErrLimit", b, n, got, e)
			}
		}
	}
}

func TestPutPlace(t *testing.T) {
	for _, p := range places() {
		for _, b := range begins {
			if got := wire.PutPlace(b, p); got != b+placeBytes(p) {
				t.Errorf("P5.1: PutPlace(%.20q, %x) = %.60q", b, p, got)
			}
		}
	}
}

func TestPutLabel(t *testing.T) {
	for _, bits := range bitTexts() {
		for _, b := range begins {
			if got, e := wire.PutLabel(b, of(bits)); e != api.OK || got != b+labelBytes(bits) {
				t.Errorf("P5.1: PutLabel(%.20q) of the bits %q: %.40q, %d", b, bits, got, e)
			}
		}
	}
}

func TestPutLabelOfWrongOnes(t *testing.T) {
	for _, l := range wrongLabels() {
		for _, b := range begins {
			if got, e := wire.PutLabel(b, l); e != api.ErrArg || got != "" {
				t.Errorf("P5.1: PutLabel(%.20q, %v) = %.20q, %d, want none, ErrArg", b, l, got, e)
			}
		}
	}
}

func TestANewReaderHasAllLeft(t *testing.T) {
	for _, s := range append(texts(), begins...) {
		r := wire.New(s)
		if r == nil || r.Left() != len(s) || r.Left() != len(s) {
			t.Errorf("P5.2: of %d bytes %d are left", len(s), r.Left())
		}
	}
}

func TestANilReader(t *testing.T) {
	var r *wire.Reader
	for _, k := range kinds {
		if v, e := k.read(r); e != api.ErrNil || v != k.none {
			t.Errorf("P5.3: %s of a nil reader: %v, %d, want nothing, ErrNil", k.name, v, e)
		}
	}
	if n := r.Left(); n != 0 {
		t.Errorf("P5.2: a nil reader has %d bytes left", n)
	}
}

func TestReadingTakesJustItsBytes(t *testing.T) {
	for _, x := range samples() {
		for _, behind := range []string{"", "\x00", "\x01", "\xff", "\x01\x02ab", strings.Repeat("\xff", 30)} {
			holdOK(t, wire.New(x.bytes+behind), x.kind, x.value, len(behind))
		}
	}
}

func TestBytesThatEndTooSoon(t *testing.T) {
	for _, x := range samples() {
		step := 1 + len(x.bytes)/300
		for n := 0; n < len(x.bytes); n += step {
			holdBad(t, x.kind, x.bytes[:n], api.ErrMore)
		}
		holdBad(t, x.kind, x.bytes[:len(x.bytes)-1], api.ErrMore)
	}
}

func TestAReaderAtItsEnd(t *testing.T) {
	for _, x := range append(samples(), sample{text, "", "\x00"}) {
		r := wire.New(x.bytes)
		holdOK(t, r, x.kind, x.value, 0)
		for _, k := range kinds {
			holdError(t, r, k, api.ErrMore)
		}
	}
	for _, k := range kinds {
		holdError(t, wire.New(""), k, api.ErrMore)
	}
}

func TestNumbersThatBeginAbove8(t *testing.T) {
	for first := 9; first < 256; first++ {
		for _, behind := range []string{"", "\x01", strings.Repeat("\x01", first-1), strings.Repeat("\x01", first), strings.Repeat("\x00", 300)} {
			s := string([]byte{byte(first)}) + behind
			holdBad(t, number, s, api.ErrForm)
			holdBad(t, text, s, api.ErrForm)
		}
	}
}

func TestNumbersInMoreBytesThanTheyNeed(t *testing.T) {
	for size := 1; size <= 8; size++ {
		for noughts := 1; noughts <= size; noughts++ {
			s := string([]byte{byte(size)}) + strings.Repeat("\x00", noughts) + strings.Repeat("\x01", size-noughts)
			for _, behind := range []string{"", "\x01", strings.Repeat("a", 400)} {
				holdBad(t, number, s+behind, api.ErrForm)
				holdBad(t, text, s+behind, api.ErrForm)
			}
			// The nought is there, but not all that the first byte tells.
			for n := 1; n < len(s); n++ {
				holdBad(t, number, s[:n], api.ErrMore)
				holdBad(t, text, s[:n], api.ErrMore)
			}
		}
	}
}

func TestTextsThatTellTooManyBytes(t *testing.T) {
	for _, v := range []uint64{4097, 4098, 8192, 65535, 65536, 1<<31 - 1, 1 << 31, 1<<32 - 1, 1 << 32, 1<<32 + 2, 1<<63 - 1, 1 << 63, 1<<63 + 2, greatest - 1, greatest} {
		s := numberBytes(v)
		for _, behind := range []string{"", "ab", strings.Repeat("a", 4096), strings.Repeat("a", 8192)} {
			holdBad(t, text, s+behind, api.ErrForm)
		}
		for n := range len(s) {
			holdBad(t, text, s[:n], api.ErrMore)
		}
	}
}

func TestLabelsThatTellAWrongLength(t *testing.T) {
	for length := 65; length < 256; length++ {
		for _, behind := range []string{"", "\x00", strings.Repeat("\x00", 8), strings.Repeat("\x00", 9), strings.Repeat("\x00", 32), strings.Repeat("\xff", 32)} {
			holdBad(t, lab, string([]byte{byte(length)})+behind, api.ErrForm)
		}
	}
}

func TestLabelsWithBitsBehindTheirLastOne(t *testing.T) {
	for length := 1; length < 64; length++ {
		whole := (length + 7) / 8 * 8
		for turned := length; turned < whole; turned++ {
			for _, bit := range []string{"0", "1"} {
				bits := strings.Repeat(bit, length) + strings.Repeat("0", turned-length) + "1" + strings.Repeat("0", whole-turned-1)
				s := string([]byte{byte(length)}) + labelBytes(bits)[1:]
				for _, behind := range []string{"", "\x00", "\xff\xff"} {
					holdBad(t, lab, s+behind, api.ErrForm)
				}
				holdBad(t, lab, s[:len(s)-1], api.ErrMore)
			}
		}
	}
}

func TestPlacesOfTooFewBytes(t *testing.T) {
	for n := range 20 {
		for _, b := range []string{"\x00", "\x01", "\xff"} {
			holdBad(t, place, strings.Repeat(b, n), api.ErrMore)
		}
	}
}

func TestReadersOfTheSameBytesAreApart(t *testing.T) {
	s := numberBytes(258) + textBytes("ab") + numberBytes(7)
	a, b := wire.New(s), wire.New(s)
	holdOK(t, a, number, uint64(258), len(s)-3)
	holdOK(t, a, text, "ab", 2)
	if b.Left() != len(s) {
		t.Errorf("P5.2: %d bytes left of a reader, read by another one", b.Left())
	}
	holdOK(t, b, number, uint64(258), len(s)-3)
	holdOK(t, a, number, uint64(7), 0)
	holdOK(t, b, text, "ab", 2)
}

// holdAny reads any bytes, from their beginning on, value by value, by kinds in turn, till each kind has an error.
func holdAny(t *testing.T, s string, turn int) {
	t.Helper()
	r := wire.New(s)
	for failed := 0; failed < len(kinds); turn++ {
		k := kinds[turn%len(kinds)]
		want, n, code := k.told(s)
		if code != api.OK {
			holdError(t, r, k, code)
			failed++
			continue
		}
		holdOK(t, r, k, want, len(s)-n)
		if again, e := k.put("", want); e != api.OK || again != s[:n] {
			t.Errorf("P5.4: %s, put again: %.40q, %d, want %.40q", k.name, again, e, s[:n])
		}
		s, failed = s[n:], 0
	}
}

func TestAllFewBytes(t *testing.T) {
	for turn := range kinds {
		holdAny(t, "", turn)
		for a := range 256 {
			holdAny(t, string([]byte{byte(a)}), turn)
			for b := range 256 {
				holdAny(t, string([]byte{byte(a), byte(b)}), turn)
			}
		}
	}
}

// TestAnyBytes has many small bytes, so that more of them are values.
func TestAnyBytes(t *testing.T) {
	source := rand.New(rand.NewSource(5))
	for i := range 20000 {
		s := []byte(anyBytes(source, source.Intn(60)))
		for at := range s {
			if source.Intn(2) == 0 {
				s[at] %= 10
			}
		}
		holdAny(t, string(s), i)
	}
}

func TestWhatIsPutIsReadAsItWas(t *testing.T) {
	for _, x := range samples() {
		for _, b := range []string{"", "\x00", "\x02\x01\x02"} {
			s, e := x.kind.put(b, x.value)
			if e != api.OK || !strings.HasPrefix(s, b) {
				t.Fatalf("P5.4: %s, put: %d", x.kind.name, e)
			}
			r := wire.New(s)
			if b != "" {
				r.Number()
			}
			if v, f := x.kind.read(r); f != api.OK || v != x.value || r.Left() != 0 {
				t.Errorf("P5.4: %s: %.60q, %d, %d left, want %.60q", x.kind.name, fmt.Sprint(v), f, r.Left(), fmt.Sprint(x.value))
			}
		}
	}
}

func TestValuesPutOneBehindTheOtherAreReadInOrder(t *testing.T) {
	list := samples()
	source := rand.New(rand.NewSource(6))
	for range 200 {
		source.Shuffle(len(list), func(i, j int) { list[i], list[j] = list[j], list[i] })
		row := list[:source.Intn(12)]
		b, want := "", ""
		for _, x := range row {
			var e api.Errno
			if b, e = x.kind.put(b, x.value); e != api.OK {
				t.Fatalf("P5.4: %s, put: %d", x.kind.name, e)
			}
			want += x.bytes
		}
		if b != want {
			t.Errorf("P5.1: %d values: %.60q, want %.60q", len(row), b, want)
		}
		r, left := wire.New(b), len(b)
		for _, x := range row {
			left -= len(x.bytes)
			holdOK(t, r, x.kind, x.value, left)
		}
	}
}

package sha_test

import (
	"bytes"
	"crypto/sha1"
	"encoding"
	"encoding/binary"
	"math/rand"
	"slices"
	"strings"
	"testing"

	"espalier/api"
	"espalier/ident"
	"espalier/sha"
)

// edges are lengths of texts about which blocks fill, the longest one that may be among them.
var edges = []int{0, 1, 2, 3, 54, 55, 56, 57, 62, 63, 64, 65, 118, 119, 120, 127, 128, 129, 183, 184, 4032, 4087, 4088, 4095, 4096}

// tooLong are lengths of texts above the limit.
var tooLong = []int{4097, 4098, 4159, 4160, 8192, 1 << 20}

// noBlock are lengths of texts that are no block.
var noBlock = []int{0, 1, 4, 55, 56, 60, 63, 65, 127, 128, 4096, 4097}

func randomText(source *rand.Rand, n int) string {
	b := make([]byte, n)
	source.Read(b)
	return string(b)
}

// textsOf are texts of n bytes: of one letter, of noughts, of the greatest byte, of marks like Pad's own, of runes, and of any bytes.
func textsOf(n int) []string {
	runes := strings.Repeat("aß€😀", n)[:n]
	mixed := randomText(rand.New(rand.NewSource(int64(n))), n)
	return []string{
		strings.Repeat("a", n), strings.Repeat("\x00", n), strings.Repeat("\xff", n), strings.Repeat("\x80", n), runes, mixed,
	}
}

// blocks are texts of 64 bytes: those of textsOf, and some more of any bytes.
func blocks() []string {
	list := textsOf(64)
	source := rand.New(rand.NewSource(2))
	for range 20 {
		list = append(list, randomText(source, 64))
	}
	for at := range 64 {
		list = append(list, strings.Repeat("\x00", at)+"\x81"+strings.Repeat("\x00", 63-at))
	}
	return list
}

func states() []api.State {
	list := []api.State{{}, sha.Start(), {1, 2, 3, 4, 5}, {1 << 31, 1 << 31, 1 << 31, 1 << 31, 1 << 31},
		{0xffffffff, 0xffffffff, 0xffffffff, 0xffffffff, 0xffffffff}}
	source := rand.New(rand.NewSource(3))
	for range 10 {
		var h api.State
		for i := range h {
			h[i] = source.Uint32()
		}
		list = append(list, h)
	}
	return list
}

func TestPadIsTheTextTheMarkNoughtsAndTheCount(t *testing.T) {
	for _, n := range edges {
		for _, s := range textsOf(n) {
			want := []byte(s)
			want = append(want, 128)
			for len(want)%64 != 56 {
				want = append(want, 0)
			}
			want = binary.BigEndian.AppendUint64(want, uint64(n)*8)
			if got, e := sha.Pad(s); e != api.OK || got != string(want) {
				t.Errorf("P2.1: Pad of %d bytes: %x, %d, want %x", n, got, e, want)
			}
		}
	}
}

func TestPadOfKnownTexts(t *testing.T) {
	for _, c := range []struct{ text, want string }{
		{"", "\x80" + strings.Repeat("\x00", 63)},
		{"abc", "abc\x80" + strings.Repeat("\x00", 59) + "\x18"},
		{strings.Repeat("b", 55), strings.Repeat("b", 55) + "\x80\x00\x00\x00\x00\x00\x00\x01\xb8"},
		{strings.Repeat("b", 56), strings.Repeat("b", 56) + "\x80" + strings.Repeat("\x00", 69) + "\x01\xc0"},
		{strings.Repeat("b", 63), strings.Repeat("b", 63) + "\x80" + strings.Repeat("\x00", 62) + "\x01\xf8"},
		{strings.Repeat("b", 64), strings.Repeat("b", 64) + "\x80" + strings.Repeat("\x00", 61) + "\x02\x00"},
		{strings.Repeat("b", 65), strings.Repeat("b", 65) + "\x80" + strings.Repeat("\x00", 60) + "\x02\x08"},
		{strings.Repeat("b", 4096), strings.Repeat("b", 4096) + "\x80" + strings.Repeat("\x00", 61) + "\x80\x00"},
	} {
		if got, e := sha.Pad(c.text); e != api.OK || got != c.want {
			t.Errorf("P2.1: Pad of %d bytes: %x, %d, want %x", len(c.text), got, e, c.want)
		}
	}
}

func TestPadOfTooLongTexts(t *testing.T) {
	for _, n := range tooLong {
		if got, e := sha.Pad(strings.Repeat("a", n)); e != api.ErrLimit || got != "" {
			t.Errorf("P2.1: Pad of %d bytes: %d bytes, %d, want none, ErrLimit", n, len(got), e)
		}
	}
}

func TestWordsBeginWithTheBlocksBytes(t *testing.T) {
	for _, block := range blocks() {
		words, e := sha.Words(block)
		if e != api.OK || len(words) != 80 {
			t.Fatalf("P2.2: Words(%x): %d numbers, %d", block, len(words), e)
		}
		for i := range 16 {
			if want := binary.BigEndian.Uint32([]byte(block[4*i : 4*i+4])); words[i] != want {
				t.Errorf("P2.2: Words(%x): %x at %d, want %x", block, words[i], i, want)
			}
		}
	}
}

func TestWordsGoOnByThoseAhead(t *testing.T) {
	for _, block := range blocks() {
		w, _ := sha.Words(block)
		for i := 16; i < 80; i++ {
			unlike := w[i-3] ^ w[i-8] ^ w[i-14] ^ w[i-16]
			if want := unlike<<1 | unlike>>31; w[i] != want {
				t.Fatalf("P2.2: Words(%x): %x at %d, want %x", block, w[i], i, want)
			}
		}
	}
}

func TestWordsOfAKnownBlock(t *testing.T) {
	padded, _ := sha.Pad("abc")
	words, e := sha.Words(padded)
	if e != api.OK || len(words) != 80 {
		t.Fatalf("P2.2: %d numbers, %d", len(words), e)
	}
	for at, want := range map[int]uint32{0: 0x61626380, 1: 0, 14: 0, 15: 0x18, 16: 0xc2c4c700, 17: 0, 18: 0x30, 19: 0x85898e01, 20: 0, 21: 0x60} {
		if words[at] != want {
			t.Errorf("P2.2: %x at %d, want %x", words[at], at, want)
		}
	}
}

func TestWordsOfWhatIsNoBlock(t *testing.T) {
	for _, n := range noBlock {
		for _, s := range textsOf(n) {
			if words, e := sha.Words(s); e != api.ErrArg || len(words) != 0 {
				t.Errorf("P2.2: Words of %d bytes: %x, %d, want none, ErrArg", n, words, e)
			}
		}
	}
}

func TestWordsAreTheCallersOwn(t *testing.T) {
	block := strings.Repeat("q", 64)
	first, _ := sha.Words(block)
	kept := slices.Clone(first)
	second, _ := sha.Words(block)
	clear(second)
	third, _ := sha.Words(block)
	if !slices.Equal(first, kept) || !slices.Equal(third, kept) {
		t.Errorf("R2: what came out of Words was changed later")
	}
}

func TestStart(t *testing.T) {
	want := api.State{0x67452301, 0xefcdab89, 0x98badcfe, 0x10325476, 0xc3d2e1f0}
	h := sha.Start()
	if h != want {
		t.Errorf("P2.3: Start() = %x, want %x", h, want)
	}
	h[0] = 0
	if sha.Start() != want {
		t.Errorf("R2: Start() was changed")
	}
}

// libraryStep is a step as the library does it: a hash is set to h, and told one block.
func libraryStep(t *testing.T, h api.State, block string) api.State {
	t.Helper()
	set := []byte("sha\x01")
	for _, v := range h {
		set = binary.BigEndian.AppendUint32(set, v)
	}
	set = append(set, make([]byte, 64+8)...)
	digest := sha1.New()
	if err := digest.(encoding.BinaryUnmarshaler).UnmarshalBinary(set); err != nil {
		t.Fatal(err)
	}
	digest.Write([]byte(block))
	told, err := digest.(encoding.BinaryMarshaler).MarshalBinary()
	if err != nil {
		t.Fatal(err)
	}
	var out api.State
	for i := range out {
		out[i] = binary.BigEndian.Uint32(told[4+4*i:])
	}
	return out
}

func TestStepIsTheLibrarysFromEachState(t *testing.T) {
	for _, h := range states() {
		for _, block := range blocks() {
			kept := h
			got, e := sha.Step(h, block)
			if want := libraryStep(t, h, block); e != api.OK || got != want {
				t.Fatalf("P2.3: Step(%x, %x) = %x, %d, want %x", h, block, got, e, want)
			}
			if h != kept {
				t.Fatalf("R2: an argument was changed")
			}
		}
	}
}

func TestStepOfAKnownBlock(t *testing.T) {
	padded, _ := sha.Pad("abc")
	want := api.State{0xa9993e36, 0x4706816a, 0xba3e2571, 0x7850c26c, 0x9cd0d89d}
	if got, e := sha.Step(sha.Start(), padded); e != api.OK || got != want {
		t.Errorf("P2.3: Step(Start(), Pad(abc)) = %x, %d, want %x", got, e, want)
	}
}

func TestStepOfWhatIsNoBlock(t *testing.T) {
	for _, n := range noBlock {
		for _, h := range states() {
			if got, e := sha.Step(h, strings.Repeat("a", n)); e != api.ErrArg || got != (api.State{}) {
				t.Errorf("P2.3: Step of %d bytes: %x, %d, want 0, ErrArg", n, got, e)
			}
		}
	}
}

func TestSumIsStartStepByStep(t *testing.T) {
	for _, n := range edges {
		for _, s := range textsOf(n) {
			padded, _ := sha.Pad(s)
			h := sha.Start()
			for rest := padded; rest != ""; rest = rest[64:] {
				h, _ = sha.Step(h, rest[:64])
			}
			var want []byte
			for _, v := range h {
				want = binary.BigEndian.AppendUint32(want, v)
			}
			if got, e := sha.Sum(s); e != api.OK || !bytes.Equal(got[:], want) {
				t.Errorf("P2.4: Sum of %d bytes: %x, %d, want %x", n, got, e, want)
			}
		}
	}
}

func TestSumOfTooLongTexts(t *testing.T) {
	for _, n := range tooLong {
		if got, e := sha.Sum(strings.Repeat("a", n)); e != api.ErrLimit || got != (api.ID{}) {
			t.Errorf("P2.4: Sum of %d bytes: %x, %d, want 0, ErrLimit", n, got, e)
		}
	}
}

func TestWhatIsPaddedBeginsWithTheTextAndHasWholeBlocks(t *testing.T) {
	for n := 0; n <= api.MaxText; n++ {
		s := strings.Repeat("z", n)
		padded, e := sha.Pad(s)
		filled := (n + 63) / 64
		if e != api.OK || !strings.HasPrefix(padded, s) || len(padded)%64 != 0 || len(padded) < 64*filled || len(padded) > 64*(filled+1) {
			t.Fatalf("P2.5: Pad of %d bytes: %d bytes, %d", n, len(padded), e)
		}
	}
}

func TestSumsAreTheKnownOnes(t *testing.T) {
	for text, want := range map[string]string{
		"":    "da39a3ee5e6b4b0d3255bfef95601890afd80709",
		"a":   "86f7e437faa5a7fce15d1ddcb9eaeaea377667b8",
		"abc": "a9993e364706816aba3e25717850c26c9cd0d89d",
		"abcdbcdecdefdefgefghfghighijhijkijkljklmklmnlmnomnopnopq":                                                         "84983e441c3bd26ebaae4aa1f95129e5e54670f1",
		"abcdefghbcdefghicdefghijdefghijkefghijklfghijklmghijklmnhijklmnoijklmnopjklmnopqklmnopqrlmnopqrsmnopqrstnopqrstu": "a49b2446a02c645bf419f995b67091253a04a259",
		"The quick brown fox jumps over the lazy dog":                                                                      "2fd4e1c67a2d28fced849ee1bb76e7391b93eb12",
	} {
		if got, e := sha.Sum(text); e != api.OK || ident.Text(got) != want {
			t.Errorf("P2.5: Sum(%q) = %x, %d, want %s", text, got, e, want)
		}
	}
}

func TestSumsAreTheLibrarys(t *testing.T) {
	for n := 0; n <= api.MaxText; n++ {
		s := randomText(rand.New(rand.NewSource(int64(n))), n)
		if got, e := sha.Sum(s); e != api.OK || got != api.ID(sha1.Sum([]byte(s))) {
			t.Fatalf("P2.5: Sum(%x) = %x, %d", s, got, e)
		}
	}
}

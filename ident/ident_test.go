package ident_test

import (
	"math"
	"math/big"
	"math/rand"
	"strings"
	"testing"

	"espalier/api"
	"espalier/ident"
)

// around is two to the power of 160: what the ring's sums are taken by.
var around = new(big.Int).Lsh(big.NewInt(1), api.Bits)

func number(a api.ID) *big.Int { return new(big.Int).SetBytes(a[:]) }

func place(n *big.Int) api.ID {
	var a api.ID
	new(big.Int).Mod(n, around).FillBytes(a[:])
	return a
}

func small(n int64) api.ID { return place(big.NewInt(n)) }

// places are the edges: 0, its neighbours, each byte's borders, the ring's half; and some in between.
func places() []api.ID {
	list := []api.ID{small(0), small(1), small(2), small(-1), small(-2)}
	for k := 7; k < api.Bits; k += 38 {
		p := new(big.Int).Lsh(big.NewInt(1), uint(k))
		list = append(list, place(p), place(new(big.Int).Sub(p, big.NewInt(1))), place(new(big.Int).Add(p, big.NewInt(1))))
	}
	half := new(big.Int).Lsh(big.NewInt(1), api.Bits-1)
	list = append(list, place(half), place(new(big.Int).Sub(half, big.NewInt(1))))
	source := rand.New(rand.NewSource(1))
	for range 12 {
		var a api.ID
		source.Read(a[:])
		list = append(list, a)
	}
	return list
}

func TestPlusAndMinusAreSumsAndDifferencesRoundTheRing(t *testing.T) {
	for _, a := range places() {
		for _, b := range places() {
			keptA, keptB := a, b
			if got, want := ident.Plus(a, b), place(new(big.Int).Add(number(a), number(b))); got != want {
				t.Errorf("P1.1: Plus(%x, %x) = %x, want %x", a, b, got, want)
			}
			if got, want := ident.Minus(a, b), place(new(big.Int).Sub(number(a), number(b))); got != want {
				t.Errorf("P1.1: Minus(%x, %x) = %x, want %x", a, b, got, want)
			}
			if a != keptA || b != keptB {
				t.Errorf("R2: an argument was changed")
			}
		}
	}
}

func TestSumsAtTheRingsEnd(t *testing.T) {
	greatest := small(-1)
	if ident.Plus(greatest, small(1)) != small(0) || ident.Minus(small(0), small(1)) != greatest {
		t.Errorf("P1.1: behind the greatest place comes 0")
	}
	if ident.Plus(greatest, greatest) != small(-2) || ident.Minus(small(3), small(5)) != small(-2) {
		t.Errorf("P1.1: sums and differences are taken by two to the power of 160")
	}
	if ident.Text(ident.Minus(small(0), small(1))) != strings.Repeat("f", 40) {
		t.Errorf("P1.1: Minus(0, 1) is forty times f")
	}
}

func TestPowerOfEachBit(t *testing.T) {
	for k := 0; k <= 159; k++ {
		want := place(new(big.Int).Lsh(big.NewInt(1), uint(k)))
		if got, e := ident.Power(k); e != api.OK || got != want {
			t.Errorf("P1.1: Power(%d) = %x, %d, want %x", k, got, e, want)
		}
	}
}

func TestPowerOutsideTheBits(t *testing.T) {
	for _, k := range []int{-1, -8, -160, 160, 161, 168, 320, math.MaxInt, math.MinInt} {
		if got, e := ident.Power(k); e != api.ErrArg || got != (api.ID{}) {
			t.Errorf("P1.1: Power(%d) = %x, %d, want 0, ErrArg", k, got, e)
		}
	}
}

func TestLessComparesNumbersWithoutSign(t *testing.T) {
	for _, a := range places() {
		for _, b := range places() {
			if got, want := ident.Less(a, b), number(a).Cmp(number(b)) < 0; got != want {
				t.Errorf("P1.1: Less(%x, %x) = %t", a, b, got)
			}
		}
	}
}

func TestArcsOfSmallPlaces(t *testing.T) {
	for _, c := range []struct {
		a, x, b    int64
		open, half bool
	}{
		{5, 7, 9, true, true},
		{5, 6, 9, true, true},
		{5, 8, 9, true, true},
		{5, 10, 9, false, false},
		{5, 4, 9, false, false},
		{9, 7, 5, false, false},
		{9, 3, 5, true, true},
		{9, 10, 5, true, true},
		{9, 0, 5, true, true},
		{9, -1, 5, true, true},
		{5, 6, 6, false, true},
		{5, 7, 6, false, false},
		{-1, 0, 1, true, true},
		{-1, 2, 1, false, false},
		{-1, 0, 0, false, true},
	} {
		checkArc(t, c.a, c.x, c.b, c.open, c.half)
	}
}

func TestArcsAtTheirEnds(t *testing.T) {
	for _, c := range []struct{ a, b int64 }{{5, 9}, {9, 5}, {0, 1}, {1, 0}, {-1, 0}, {0, -1}} {
		checkArc(t, c.a, c.a, c.b, false, false)
		checkArc(t, c.a, c.b, c.b, false, true)
	}
}

func TestArcsWhoseEndsAreTheSame(t *testing.T) {
	for _, a := range []int64{0, 1, 5, -1} {
		checkArc(t, a, a, a, false, true)
		checkArc(t, a, a+1, a, true, true)
		checkArc(t, a, a-1, a, true, true)
		checkArc(t, a, a+1000, a, true, true)
	}
}

func checkArc(t *testing.T, a, x, b int64, open, half bool) {
	t.Helper()
	if got := ident.Open(small(a), small(x), small(b)); got != open {
		t.Errorf("P1.2: Open(%d, %d, %d) = %t", a, x, b, got)
	}
	if got := ident.Half(small(a), small(x), small(b)); got != half {
		t.Errorf("P1.2: Half(%d, %d, %d) = %t", a, x, b, got)
	}
}

// wayTo is how far it is clockwise from a to b, all round if they are the same.
func wayTo(a, b api.ID) *big.Int {
	way := new(big.Int).Sub(number(b), number(a))
	if way.Sign() <= 0 {
		way.Add(way, around)
	}
	return way
}

func TestArcsAreWhatOneMeetsClockwise(t *testing.T) {
	list := places()
	for _, a := range list {
		for _, x := range list {
			for _, b := range list {
				order := wayTo(a, x).Cmp(wayTo(a, b))
				if got, want := ident.Open(a, x, b), order < 0; got != want {
					t.Fatalf("P1.2: Open(%x, %x, %x) = %t", a, x, b, got)
				}
				if got, want := ident.Half(a, x, b), order <= 0; got != want {
					t.Fatalf("P1.2: Half(%x, %x, %x) = %t", a, x, b, got)
				}
			}
		}
	}
}

func TestTextIsFortySmallDigits(t *testing.T) {
	for _, a := range places() {
		want := number(a).Text(16)
		want = strings.Repeat("0", 40-len(want)) + want
		if got := ident.Text(a); got != want {
			t.Errorf("P1.3: Text(%x) = %q, want %q", a, got, want)
		}
	}
}

func TestParseReadsEachDigit(t *testing.T) {
	for at := range 40 {
		for worth, letters := range []string{"0", "1", "2", "3", "4", "5", "6", "7", "8", "9", "aA", "bB", "cC", "dD", "eE", "fF"} {
			for _, c := range letters {
				s := strings.Repeat("0", at) + string(c) + strings.Repeat("0", 39-at)
				want := place(new(big.Int).Lsh(big.NewInt(int64(worth)), uint(4*(39-at))))
				if got, e := ident.Parse(s); e != api.OK || got != want {
					t.Errorf("P1.3: Parse(%q) = %x, %d, want %x", s, got, e, want)
				}
			}
		}
	}
}

func TestParseOfWrongTexts(t *testing.T) {
	for _, s := range []string{
		"", "0", "f", "0x" + strings.Repeat("0", 38), "0x" + strings.Repeat("0", 40),
		strings.Repeat("f", 39), strings.Repeat("f", 41), strings.Repeat("f", 80), strings.Repeat("f", 4096),
		" " + strings.Repeat("f", 39), strings.Repeat("f", 39) + "\n", strings.Repeat("f", 40) + "\n",
		"-" + strings.Repeat("f", 39), "+" + strings.Repeat("f", 39), strings.Repeat("f", 20) + "_" + strings.Repeat("f", 19),
		strings.Repeat("f", 38) + "ä", strings.Repeat("f", 39) + "ä", strings.Repeat("٠", 20), strings.Repeat("٠", 40),
	} {
		checkWrong(t, s)
	}
}

func TestParseOfEachWrongByte(t *testing.T) {
	for _, at := range []int{0, 1, 20, 38, 39} {
		for c := range 256 {
			if strings.IndexByte("0123456789abcdefABCDEF", byte(c)) >= 0 {
				continue
			}
			checkWrong(t, strings.Repeat("f", at)+string([]byte{byte(c)})+strings.Repeat("f", 39-at))
		}
	}
}

func checkWrong(t *testing.T, s string) {
	t.Helper()
	if got, e := ident.Parse(s); e != api.ErrForm || got != (api.ID{}) {
		t.Errorf("P1.3: Parse(%q) = %x, %d, want 0, ErrForm", s, got, e)
	}
}

func TestOfThreePlacesTheThirdIsInOneArc(t *testing.T) {
	list := places()
	for _, a := range list {
		for _, b := range list {
			for _, x := range list {
				if a == b || a == x || b == x {
					continue
				}
				if ident.Open(a, x, b) == ident.Open(b, x, a) {
					t.Fatalf("P1.4: Open: %x is in both arcs of %x and %x, or in none", x, a, b)
				}
				if ident.Half(a, x, b) == ident.Half(b, x, a) {
					t.Fatalf("P1.4: Half: %x is in both arcs of %x and %x, or in none", x, a, b)
				}
			}
		}
	}
}

func TestTurnedByAsMuchNothingChanges(t *testing.T) {
	ends := []api.ID{small(0), small(1), small(7), small(-1), small(-300), place(new(big.Int).Lsh(big.NewInt(3), 158))}
	for _, by := range places() {
		for _, a := range ends {
			for _, x := range ends {
				for _, b := range ends {
					a2, x2, b2 := ident.Plus(a, by), ident.Plus(x, by), ident.Plus(b, by)
					if ident.Open(a, x, b) != ident.Open(a2, x2, b2) || ident.Half(a, x, b) != ident.Half(a2, x2, b2) {
						t.Fatalf("P1.4: %x, %x, %x: turned by %x", a, x, b, by)
					}
				}
			}
		}
	}
}

func TestWhatIsWrittenIsReadAsItWas(t *testing.T) {
	for _, a := range places() {
		s := ident.Text(a)
		for _, written := range []string{s, strings.ToUpper(s)} {
			if got, e := ident.Parse(written); e != api.OK || got != a {
				t.Errorf("P1.4: Parse(%q) = %x, %d, want %x", written, got, e, a)
			}
		}
	}
}

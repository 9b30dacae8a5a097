// Package ident is layer 1: places on a ring, as shared/doc/01-ident.md tells.
package ident

import "espalier/api"

const (
	digits     = "0123456789abcdef"
	textLength = api.Bits / 4
)

// Plus is P1.1. The carry out of the highest byte is let go: behind the greatest place comes 0.
func Plus(a, b api.ID) api.ID {
	var sum api.ID
	carry := 0
	for i := len(sum) - 1; i >= 0; i-- {
		s := int(a[i]) + int(b[i]) + carry
		sum[i] = byte(s)
		carry = s >> 8
	}
	return sum
}

// Minus is P1.1. The borrow out of the highest byte is let go: ahead of 0 stands the greatest place.
func Minus(a, b api.ID) api.ID {
	var diff api.ID
	borrow := 0
	for i := len(diff) - 1; i >= 0; i-- {
		d := int(a[i]) - int(b[i]) - borrow
		borrow = 0
		if d < 0 {
			borrow = 1
		}
		diff[i] = byte(d)
	}
	return diff
}

// Power is P1.1.
func Power(k int) (api.ID, api.Errno) {
	var p api.ID
	if k < 0 || k >= api.Bits {
		return p, api.ErrArg
	}
	p[len(p)-1-k/8] = 1 << (k % 8)
	return p, api.OK
}

// Less is P1.1. The highest byte stands first, so the first two that differ decide.
func Less(a, b api.ID) bool {
	for i := range a {
		if a[i] != b[i] {
			return a[i] < b[i]
		}
	}
	return false
}

// Open is P1.2. Measured from a on, an arc round 0 is like any other one.
func Open(a, x, b api.ID) bool {
	return x != a && (a == b || Less(Minus(x, a), Minus(b, a)))
}

// Half is P1.2.
func Half(a, x, b api.ID) bool {
	return x == b || Open(a, x, b)
}

// Text is P1.3.
func Text(a api.ID) string {
	var text [textLength]byte
	for i, v := range a {
		text[2*i] = digits[v>>4]
		text[2*i+1] = digits[v&15]
	}
	return string(text[:])
}

// Parse is P1.3.
func Parse(s string) (api.ID, api.Errno) {
	if len(s) != textLength {
		return api.ID{}, api.ErrForm
	}
	var a api.ID
	for i := range a {
		high, okHigh := digit(s[2*i])
		low, okLow := digit(s[2*i+1])
		if !okHigh || !okLow {
			return api.ID{}, api.ErrForm
		}
		a[i] = high<<4 | low
	}
	return a, api.OK
}

// digit tells a digit's worth. A great letter falls through as the small one that it stands for.
func digit(c byte) (byte, bool) {
	switch {
	case 'A' <= c && c <= 'F':
		c += 'a' - 'A'
		fallthrough
	case 'a' <= c && c <= 'f':
		return c - 'a' + 10, true
	case '0' <= c && c <= '9':
		return c - '0', true
	}
	return 0, false
}

package token_test

import (
	"math"
	"slices"
	"testing"

	"ductus/api"
	"ductus/token"
)

// Numbers that are no characters; some would be signs, or letters of escapes, in 7, 8, 16, 21 or 32 bits.
var none = []int{
	-1, -2, -'.', -'\\', -'n', -0x80, -0x80 + '.', -0x100 + '|', -0x100 + 'd',
	0xd800, 0xd800 + '.', 0xdfff, api.Top + 1, api.Top + 2, 0x200000 + '.', 0x200000 + 't', 1<<31 - 1, 1 << 31, 1<<31 + '[', 1 << 32, 1<<32 + '(', 1<<32 + '\\', 1<<32 + 'n', 1<<32 + '0',
	-1<<32 + '|', -1<<32 + 'd', 1<<62 + '*', 1<<62 + ']', math.MaxInt32, math.MinInt32, math.MaxInt - 1, math.MaxInt, math.MinInt, math.MinInt + '.', math.MinInt + 'n',
}

// Characters that would be signs, or letters of escapes, in 7, 8 or 16 bits, or as they look.
var others = []int{0x80 + '.', 0x80 + '\\', 0x100 + '(', 0x100 + 'n', 0x100 + 'd', 0x10000 + '|', 0x10000 + 'W', 0xff3c, 0xff0e, 0x2212, 0xad, 0x660, 0xa6, 0x301, 0x5d0, 0xff10, 0xff4e, 0x10ffff, 0xfffd, 0}

// P15.1: the sixteen signs, told by their numbers, and the characters beside each of them.
func TestSign(t *testing.T) {
	signs := []int{0x24, 0x28, 0x29, 0x2a, 0x2b, 0x2d, 0x2e, 0x2f, 0x3f, 0x5b, 0x5c, 0x5d, 0x5e, 0x7b, 0x7c, 0x7d}
	for _, c := range signs {
		if !token.Sign(c) {
			t.Errorf("%c is no sign", c)
		}
		for _, beside := range []int{c - 1, c + 1} {
			if got := token.Sign(beside); got != slices.Contains(signs, beside) {
				t.Errorf("Sign of %c, beside %c: %t", beside, c, got)
			}
		}
	}
	if len(signs) != 16 {
		t.Errorf("%d signs", len(signs))
	}
}

// P15.1: what is no sign: letters, digits, blanks, and numbers that are no characters.
func TestNoSign(t *testing.T) {
	for _, from := range []struct{ low, high int }{{'a', 'z'}, {'A', 'Z'}, {'0', '9'}, {0, ' '}, {0x7f, 0xff}, {-0x200, -1}} {
		for c := from.low; c <= from.high; c++ {
			if token.Sign(c) {
				t.Errorf("%x is a sign", c)
			}
		}
	}
	for _, c := range slices.Concat(none, others) {
		if token.Sign(c) {
			t.Errorf("%x is a sign", c)
		}
	}
	for _, c := range `,:;"'!#%&<=>@_~` + "`" {
		if token.Sign(int(c)) {
			t.Errorf("%c is a sign", c)
		}
	}
}

// checkEscape: what Escape answers.
func checkEscape(t *testing.T, c, char int, group, ok bool) {
	t.Helper()
	if x, isGroup, right := token.Escape(c); x != char || isGroup != group || right != ok {
		t.Errorf("Escape of %x: %x, %t, %t; not %x, %t, %t", c, x, isGroup, right, char, group, ok)
	}
}

// P15.1: the letters n and t, the sixteen signs, and the six letters of groups.
func TestEscape(t *testing.T) {
	checkEscape(t, 'n', 0xa, false, true)
	checkEscape(t, 't', 0x9, false, true)
	for _, c := range []int{'.', '(', ')', '^', '$', '?', '*', '+', '{', '}', '[', ']', '-', '/', '\\', 0x7c} {
		checkEscape(t, c, c, false, true)
	}
	for _, c := range []int{'d', 'w', 's', 'D', 'W', 'S'} {
		checkEscape(t, c, c, true, true)
	}
}

// P15.1: all other letters, digits, and numbers that are no characters have no escape.
func TestNoEscape(t *testing.T) {
	for _, c := range "abcefghijklmopqruvxyzABCEFGHIJKLMNOPQRTUVXYZ0123456789,:;<=>@_~!#%&'\"` " {
		checkEscape(t, int(c), 0, false, false)
	}
	for _, c := range slices.Concat(none, others) {
		checkEscape(t, c, 0, false, false)
	}
	for _, c := range []int{'\n', '\t', 0, 0x7f} {
		checkEscape(t, c, 0, false, false)
	}
}

// P15.1: each character, and many numbers that are none: signs and escapes are these alone.
func TestEach(t *testing.T) {
	signs, escapes := 0, 0
	for c := -0x110000; c <= 2*api.Top; c++ {
		sign := token.Sign(c)
		x, group, ok := token.Escape(c)
		if sign {
			signs++
		}
		if ok {
			escapes++
		}
		if !ok && (x != 0 || group) || sign && (x != c || group || !ok) {
			t.Errorf("%x: a sign %t, its escape %x, %t, %t", c, sign, x, group, ok)
		}
	}
	if signs != 16 || escapes != 24 {
		t.Errorf("%d signs, %d escapes", signs, escapes)
	}
}

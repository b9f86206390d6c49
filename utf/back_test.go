package utf_test

import (
	"bytes"
	"slices"
	"testing"

	"ductus/api"
	"ductus/utf"
)

// checkBack: characters, encoded and decoded, are as they were; each place is as far behind the last one as the character there has bytes.
func checkBack(t *testing.T, l []int) {
	t.Helper()
	b, e := utf.Encode(l)
	if e != api.OK {
		t.Fatalf("Encode of %x: %v", l, e)
	}
	if !utf.Valid(b) {
		t.Fatalf("what %x is encoded as isn't valid: % x", l, b)
	}
	chars, at, e := utf.Decode(b)
	if e != api.OK || !slices.Equal(chars, l) {
		t.Fatalf("%x is decoded as %x, %v", l, chars, e)
	}
	checkRise(t, chars, at, len(b))
	for i, c := range chars {
		if at[i+1]-at[i] != utf.Size(c) {
			t.Fatalf("%x: %x is %d bytes at %d", l, c, at[i+1]-at[i], at[i])
		}
	}
}

// checkRise: places rise, from 0 to the end, one more than there are characters.
func checkRise(t *testing.T, chars, at []int, end int) {
	t.Helper()
	if len(at) != len(chars)+1 || at[0] != 0 || at[len(at)-1] != end {
		t.Fatalf("%d characters of %d bytes at %v", len(chars), end, at)
	}
	for i := range chars {
		if at[i] >= at[i+1] {
			t.Fatalf("places don't rise at %d: %v", i, at)
		}
	}
}

// P1.2: there and back of each character, alone and among others.
func TestBackOfEach(t *testing.T) {
	checkBack(t, nil)
	var l []int
	for c := range 0x110000 {
		if !isCharacter(c) {
			continue
		}
		checkBack(t, []int{c})
		l = append(l, c)
		if len(l) == 1000 || c == api.Top {
			checkBack(t, l)
			l = nil
		}
	}
}

// P1.2: there and back of lists of all kinds, the greatest ones too.
func TestBackOfLists(t *testing.T) {
	lot := numbers(1)
	for i := range 2000 {
		checkBack(t, lot.characters(i%100))
	}
	for range 50 {
		checkBack(t, lot.characters(1000))
	}
	for _, x := range edges {
		checkBack(t, slices.Repeat([]int{x.c}, 4000/x.size))
		for _, y := range edges {
			checkBack(t, []int{x.c, y.c, x.c})
		}
	}
}

// P1.2: places rise in each text, in a wrong one too; what can be decoded and is valid is encoded as it was.
func TestPlacesRise(t *testing.T) {
	lot := numbers(2)
	for i := range 3000 {
		n := i % 60
		if i%100 == 0 {
			n = 4000
		}
		b := lot.broken(n)
		checkBytes(t, b)
		chars, at, e := utf.Decode(b)
		if e != api.OK {
			t.Fatalf("Decode of % x: %v", b, e)
		}
		checkRise(t, chars, at, len(b))
		if back, e := utf.Encode(chars); utf.Valid(b) != (e == api.OK && bytes.Equal(back, b)) {
			t.Fatalf("% x: valid %v, and back % x", b, utf.Valid(b), back)
		}
	}
}

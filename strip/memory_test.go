package strip_test

import (
	"slices"
	"testing"

	"ductus/strip"
)

// P7.1, by the rules that hold everywhere: what is handed in isn't changed nor kept, its spare room neither; what is answered is new, though all be kept, or left out.
func TestNothingIsChanged(t *testing.T) {
	for _, s := range []said{
		{[]int{'a', rle, 'b'}, []int{0, 2}, []int{'a', 'b'}, []int{rle}},
		{[]int{rle, pdf, 'b', shy, -1}, []int{2, 4}, []int{'b', -1}, []int{rle, pdf, shy}},
		{[]int{'a', 'b'}, []int{0, 1}, []int{'a', 'b'}, nil},
		{[]int{0, 1, 2}, nil, nil, []int{0, 1, 2}},
		{[]int{'0', alef, '2'}, []int{0, 1, 2}, []int{'0', alef, '2'}, nil},
		{[]int{rlo}, nil, nil, []int{rlo}},
	} {
		whole := slices.Concat(s.l, []int{'z', pdf, 'y', rle, -7})
		was := slices.Clone(whole)
		l := whole[:len(s.l)]
		answers := call(l)
		if !slices.Equal(whole, was) {
			t.Errorf("what was handed in was changed to %x, from %x", whole, was)
		}
		for _, again := range call(l) {
			fill(again[:cap(again)], 99)
		}
		if !slices.Equal(whole, was) {
			t.Errorf("an answer has room of what was handed in: %x, not %x", whole, was)
		}
		fill(whole, 77)
		call([]int{'x', rle, 'x', pdf, 'x', shy})
		checkList(t, "Kept", s.l, answers[0], s.kept)
		checkList(t, "Chars", s.l, answers[1], s.chars)
		checkList(t, "Only", s.l, answers[2], s.only)
	}
}

// call: the lists that each call answers; those that answer none are called, too.
func call(l []int) [3][]int {
	strip.Rank(l, len(l))
	strip.Rank(l, len(l)+1)
	strip.Same(l, l)
	strip.Same(l, []int{rle, 'a'})
	strip.Same([]int{rle, 'a'}, l)
	return [3][]int{strip.Kept(l), strip.Chars(l), strip.Only(l)}
}

func fill(l []int, n int) {
	for i := range l {
		l[i] = n
	}
}

// P7.1, by the rules: the spare room behind a list isn't of it.
func TestSpareRoomIsNotRead(t *testing.T) {
	l := []int{rle, 'a', 'b', pdf}
	said{l[:2], []int{1}, []int{'a'}, []int{rle}}.check(t)
	said{l[:1], nil, nil, []int{rle}}.check(t)
	said{l[:0], nil, nil, nil}.check(t)
	said{l[1:3], []int{0, 1}, []int{'a', 'b'}, nil}.check(t)
	said{l[2:], []int{0}, []int{'b'}, []int{pdf}}.check(t)
	checkSame(t, l[:2], l, false)
	checkSame(t, l[:3], l, true)
	checkSame(t, l[:1], l[3:], true)
}

// P7.1, by the rules: a call hangs on its arguments alone, whatever was called ahead of it, and however often it is called.
func TestNothingIsKept(t *testing.T) {
	l := []int{'a', rle, 'b'}
	for range 20 {
		said{l, []int{0, 2}, []int{'a', 'b'}, []int{rle}}.check(t)
		said{[]int{rle, 'a'}, []int{1}, []int{'a'}, []int{rle}}.check(t)
		said{}.check(t)
		checkSame(t, l, []int{'a', 'b', shy}, true)
		checkSame(t, l, []int{'b', 'a'}, false)
		checkRank(t, l, 2, 1)
		checkRank(t, l, 3, 2)
	}
	// The same list, with something else in it.
	l[0] = pdf
	said{l, []int{2}, []int{'b'}, []int{pdf, rle}}.check(t)
	l[1] = alef
	said{l, []int{1, 2}, []int{alef, 'b'}, []int{pdf}}.check(t)
}

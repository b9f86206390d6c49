package strip_test

import (
	"math"
	"slices"
	"testing"

	"ductus/api"
	"ductus/sample"
	"ductus/strip"
)

// Characters that are left out, by their names, and some that are kept.
const (
	lre, rle, pdf, lro, rlo = 0x202a, 0x202b, 0x202c, 0x202d, 0x202e
	shy, zwsp, bom          = 0xad, 0x200b, 0xfeff
	lri, rli, fsi, pdi      = 0x2066, 0x2067, 0x2068, 0x2069
	alef, alif              = 0x5d0, 0x627
)

// said: what each call answers of a list.
type said struct {
	l, kept, chars, only []int
}

func (s said) check(t *testing.T) {
	t.Helper()
	checkList(t, "Kept", s.l, strip.Kept(s.l), s.kept)
	checkList(t, "Chars", s.l, strip.Chars(s.l), s.chars)
	checkList(t, "Only", s.l, strip.Only(s.l), s.only)
	s.checkRank(t)
	checkSame(t, s.l, s.l, true)
	checkSame(t, s.l, s.chars, true)
	checkSame(t, s.l, s.only, len(s.chars) == 0)
	checkSame(t, nil, s.l, len(s.chars) == 0)
}

// checkRank: at each place, at the list's length, below it and above it.
func (s said) checkRank(t *testing.T) {
	t.Helper()
	n := 0
	for i := range s.l {
		checkRank(t, s.l, i, n)
		if n < len(s.kept) && s.kept[n] == i {
			n++
		}
	}
	for _, i := range []int{-1, -2, -len(s.l), -len(s.l) - 1, -1 << 31, -1 << 32, math.MinInt, math.MinInt + len(s.l)} {
		if i < 0 {
			checkRank(t, s.l, i, 0)
		}
	}
	for _, away := range []int{0, 1, 2, len(s.l), 1 << 16, 1 << 31, 1 << 32} {
		checkRank(t, s.l, len(s.l)+away, len(s.kept))
	}
	checkRank(t, s.l, math.MaxInt, len(s.kept))
}

func checkList(t *testing.T, call string, l, got, want []int) {
	t.Helper()
	if !slices.Equal(got, want) {
		t.Errorf("%s of %x: %x, not %x", call, head(l), head(got), head(want))
	}
}

func checkRank(t *testing.T, l []int, i, want int) {
	t.Helper()
	if got := strip.Rank(l, i); got != want {
		t.Errorf("Rank of %x at %d: %d, not %d", head(l), i, got, want)
	}
}

// checkSame: both ways round.
func checkSame(t *testing.T, a, b []int, want bool) {
	t.Helper()
	if got := strip.Same(a, b); got != want {
		t.Errorf("Same of %x and %x: %v", head(a), head(b), got)
	}
	if got := strip.Same(b, a); got != want {
		t.Errorf("Same of %x and %x: %v", head(b), head(a), got)
	}
}

// head: so much of a list as one wants to read.
func head(l []int) []int {
	return l[:min(len(l), 40)]
}

// P7.1: the chapter's example.
func TestExample(t *testing.T) {
	said{[]int{'a', rle, 'b'}, []int{0, 2}, []int{'a', 'b'}, []int{rle}}.check(t)
	for i, want := range []int{0, 1, 1, 2} {
		checkRank(t, []int{'a', rle, 'b'}, i, want)
	}
	checkSame(t, []int{'a', rle, 'b'}, []int{'a', 'b'}, true)
}

// P7.1: at an empty list nothing is told.
func TestEmpty(t *testing.T) {
	said{}.check(t)
	said{l: []int{}}.check(t)
	said{l: []int{'a', rle}[:0]}.check(t)
	checkSame(t, nil, []int{}, true)
	checkSame(t, nil, []int{rle}, true)
	checkSame(t, []int{}, []int{shy, pdf, bom}, true)
	checkSame(t, nil, []int{'a'}, false)
	checkSame(t, []int{}, []int{rle, -1}, false)
}

// P7.1: what is left out, and what is kept, at the beginning, at the end, between, alone, and many one behind another.
func TestInFull(t *testing.T) {
	for _, s := range []said{
		{[]int{'a'}, []int{0}, []int{'a'}, nil},
		{[]int{rle}, nil, nil, []int{rle}},
		{[]int{rle, 'a'}, []int{1}, []int{'a'}, []int{rle}},
		{[]int{'a', rle}, []int{0}, []int{'a'}, []int{rle}},
		{[]int{rle, 'a', pdf}, []int{1}, []int{'a'}, []int{rle, pdf}},
		{[]int{'a', rle, pdf, 'b'}, []int{0, 3}, []int{'a', 'b'}, []int{rle, pdf}},
		{[]int{lre, rle, pdf, lro, rlo, shy, 'a', 'b'}, []int{6, 7}, []int{'a', 'b'}, []int{lre, rle, pdf, lro, rlo, shy}},
		{[]int{'a', 'b', lre, rle, pdf, lro, rlo, bom}, []int{0, 1}, []int{'a', 'b'}, []int{lre, rle, pdf, lro, rlo, bom}},
		{[]int{'a', lre, rle, pdf, lro, rlo, zwsp, 'b'}, []int{0, 7}, []int{'a', 'b'}, []int{lre, rle, pdf, lro, rlo, zwsp}},
		{[]int{lre, 'a', shy, 'b', pdf, alef, rlo}, []int{1, 3, 5}, []int{'a', 'b', alef}, []int{lre, shy, pdf, rlo}},
		{[]int{'a', lre, 'b', shy, alef, pdf, 'c'}, []int{0, 2, 4, 6}, []int{'a', 'b', alef, 'c'}, []int{lre, shy, pdf}},
		{[]int{pdf, pdf, pdf}, nil, nil, []int{pdf, pdf, pdf}},
		{[]int{'a', 'a', 'a'}, []int{0, 1, 2}, []int{'a', 'a', 'a'}, nil},
		{[]int{'a', pdf, 'a', pdf, 'a'}, []int{0, 2, 4}, []int{'a', 'a', 'a'}, []int{pdf, pdf}},
		{[]int{rlo, shy, pdf, rle, shy}, nil, nil, []int{rlo, shy, pdf, rle, shy}},
		{[]int{'b', alef, '1', ' ', 'a', '\n'}, []int{0, 1, 2, 3, 4, 5}, []int{'b', alef, '1', ' ', 'a', '\n'}, nil},
		// Isolates are kept, their beginnings and ends, too, and marks that say a direction.
		{[]int{rli, alif, pdi, lri, fsi, pdi, 0x200e, 0x200f}, []int{0, 1, 2, 3, 4, 5, 6, 7}, []int{rli, alif, pdi, lri, fsi, pdi, 0x200e, 0x200f}, nil},
		{[]int{rli, rle, pdi, pdf}, []int{0, 2}, []int{rli, pdi}, []int{rle, pdf}},
		// Blanks, tabulators and ends of paragraphs are kept, though they be control characters; others of these are left out.
		{[]int{0, '\t', 8, '\n', 0xb, 0xc, '\r', 0xe, 0x1b, 0x1c, 0x1f, ' ', 0x7f, 0x84, 0x85, 0x86, 0x9f, 0xa0}, []int{1, 3, 4, 5, 6, 9, 10, 11, 14, 17}, []int{'\t', '\n', 0xb, 0xc, '\r', 0x1c, 0x1f, ' ', 0x85, 0xa0}, []int{0, 8, 0xe, 0x1b, 0x7f, 0x84, 0x86, 0x9f}},
		// What is no character is kept.
		{[]int{-1, rle, 0xd800, shy, api.Top + 1, 1<<32 + rle, math.MinInt}, []int{0, 2, 4, 5, 6}, []int{-1, 0xd800, api.Top + 1, 1<<32 + rle, math.MinInt}, []int{rle, shy}},
		{[]int{rle, -1}, []int{1}, []int{-1}, []int{rle}},
	} {
		s.check(t)
	}
}

// P7.1: Rank at each place, told in full.
func TestRank(t *testing.T) {
	l := []int{rle, pdf, 'a', shy, shy, alef, 'b', rlo}
	for i, want := range []int{0, 0, 0, 1, 1, 1, 2, 3, 3} {
		checkRank(t, l, i, want)
	}
	for _, i := range []int{-1, -3, -6, -8, math.MinInt, -1 << 32} {
		checkRank(t, l, i, 0)
	}
	for _, i := range []int{9, 10, 16, 1000, 1 << 32, math.MaxInt} {
		checkRank(t, l, i, 3)
		checkRank(t, l[:7], i, 3)
		checkRank(t, l[:6], i, 2)
		checkRank(t, l[:2], i, 0)
	}
}

// alone: a list of characters that are left out alone, or kept alone.
func alone(t *testing.T, l []int, out bool) {
	t.Helper()
	s := said{l: l}
	for i := range l {
		if out {
			s.only = append(s.only, l[i])
		} else {
			s.kept, s.chars = append(s.kept, i), append(s.chars, l[i])
		}
	}
	s.check(t)
}

// aloneAndTogether: a class's characters, one by one, each many times, and all of them.
func aloneAndTogether(t *testing.T, chars []int, out bool) {
	t.Helper()
	for _, c := range chars {
		alone(t, []int{c}, out)
		alone(t, []int{c, c, c, c, c}, out)
	}
	alone(t, chars, out)
	back := slices.Clone(chars)
	slices.Reverse(back)
	alone(t, back, out)
}

// P7.1: lists of characters of each class alone.
func TestClassesAlone(t *testing.T) {
	out, kept := rows(outTable), rows(keptTable)
	if len(out) != 6 || len(kept) != 17 {
		t.Fatalf("%d classes are left out, %d kept", len(out), len(kept))
	}
	for _, r := range out {
		aloneAndTogether(t, r.chars, true)
	}
	for _, r := range kept {
		aloneAndTogether(t, r.chars, false)
	}
	alone(t, all(outTable), true)
	alone(t, all(keptTable), false)
}

// P7.1: characters of each class beside those of each other one.
func TestClassesTogether(t *testing.T) {
	o := newOracle()
	table := append(rows(outTable), rows(keptTable)...)
	for _, x := range table {
		for _, y := range table {
			for _, l := range [][]int{
				slices.Concat(x.chars, y.chars),
				{x.chars[0], y.chars[0], x.chars[0]},
				{x.chars[0], y.chars[0], y.chars[0], x.chars[0], y.chars[0]},
			} {
				o.of(l).check(t)
			}
		}
	}
}

// P7.1: numbers that are no character are kept, alone, and beside what is left out.
func TestNoCharacters(t *testing.T) {
	aloneAndTogether(t, noCharacters, false)
	for _, c := range noCharacters {
		said{[]int{shy, c, rle}, []int{1}, []int{c}, []int{shy, rle}}.check(t)
		said{[]int{c, pdf, c}, []int{0, 2}, []int{c, c}, []int{pdf}}.check(t)
	}
	for _, c := range all(outTable) {
		for _, away := range []int{1 << 21, 1 << 31, 1 << 32, 1 << 62, -1 << 21, -1 << 31, -1 << 32, -1 << 62, math.MinInt} {
			said{[]int{c + away, c}, []int{0}, []int{c + away}, []int{c}}.check(t)
		}
		if c > 0 {
			said{[]int{-c, c, ^c}, []int{0, 2}, []int{-c, ^c}, []int{c}}.check(t)
		}
	}
}

// P7.1: each character, and some way beyond, alone, and all of them in one list.
func TestEachCharacter(t *testing.T) {
	o := newOracle()
	var whole []int
	for c := -0x1000; c <= api.Top+0x1000; c++ {
		whole = append(whole, c)
		if s := o.of([]int{c}); len(strip.Kept(s.l)) != len(s.kept) || len(strip.Chars(s.l)) != len(s.chars) || len(strip.Only(s.l)) != len(s.only) || strip.Rank(s.l, 1) != len(s.kept) {
			t.Errorf("%x is left out: not %v", c, o[c])
		}
		if strip.Same([]int{c}, nil) != o[c] {
			t.Errorf("%x is the same as nothing: not %v", c, o[c])
		}
	}
	s := o.of(whole)
	checkList(t, "Kept", s.l, strip.Kept(s.l), s.kept)
	checkList(t, "Chars", s.l, strip.Chars(s.l), s.chars)
	checkList(t, "Only", s.l, strip.Only(s.l), s.only)
	checkRank(t, s.l, len(s.l), len(s.kept))
	checkSame(t, s.l, s.chars, true)
	checkSame(t, s.l, s.chars[1:], false)
}

// P7.1: each short list of a few that are left out and kept.
func TestEachShortList(t *testing.T) {
	o := newOracle()
	for l := range sample.Every([]int{'a', rli, -1, rle, shy}, 6) {
		o.of(l).check(t)
	}
}

// P7.1: mixed lists.
func TestMixedLists(t *testing.T) {
	o := newOracle()
	for l := range sample.MixedOf(many(), 1000, 60) {
		o.of(l).check(t)
	}
}

// P7.1: lists that are longer than a text may be; what is left out stands at the beginning, at the end, between, or nowhere.
func TestLong(t *testing.T) {
	for _, n := range []int{4000, 4001, 1<<16 + 1, 1 << 18} {
		kept, out := slices.Repeat([]int{'a'}, n), slices.Repeat([]int{pdf}, n)
		for _, l := range [][]int{
			kept, out, slices.Concat(kept, out), slices.Concat(out, kept), slices.Concat(kept, out, kept), slices.Concat(out, kept, out),
			slices.Repeat([]int{'a', rle, shy, 'b', 0x5d0}, n/5),
		} {
			checkLong(t, newOracle().of(l))
		}
	}
}

func checkLong(t *testing.T, s said) {
	t.Helper()
	checkList(t, "Kept", s.l, strip.Kept(s.l), s.kept)
	checkList(t, "Chars", s.l, strip.Chars(s.l), s.chars)
	checkList(t, "Only", s.l, strip.Only(s.l), s.only)
	for _, i := range []int{-1, 0, 1, len(s.l) / 2, len(s.l) - 1, len(s.l), len(s.l) + 1} {
		ahead, _ := slices.BinarySearch(s.kept, i)
		checkRank(t, s.l, i, ahead)
	}
	checkSame(t, s.l, s.chars, true)
	checkSame(t, s.l, append(slices.Clone(s.chars), 'a'), false)
	if n := len(s.chars); n > 0 {
		checkSame(t, s.l, s.chars[:n-1], false)
		checkSame(t, s.l, append(slices.Clone(s.chars[:n-1]), 'z'), false)
	}
}

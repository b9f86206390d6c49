package tree_test

import (
	"math"
	"slices"
	"strconv"
	"testing"

	"ductus/api"
	"ductus/fold"
	"ductus/pair"
	"ductus/sample"
	"ductus/tree"
)

func checkClose(t *testing.T, l []api.Range, flags int, want []api.Range) {
	t.Helper()
	checkRanges(t, "Close by "+strconv.Itoa(flags)+" of "+sample.ShowRanges(l), tree.Close(l, flags), want)
}

// checkCloses: Close by each of the flags from 0 to 7, by the chapter's words.
func checkCloses(t *testing.T, l []api.Range) {
	t.Helper()
	edges := edgesOf(l)
	for flags := range 8 {
		checkClose(t, l, flags, rangesOf(closeOf(inOf(l), flags), edges))
	}
}

// single: each of some characters as a range.
func single(chars ...int) []api.Range {
	var out []api.Range
	for _, c := range chars {
		out = append(out, between(c, c)...)
	}
	return out
}

// P16.1: told in full: this hangs on no table.
func TestClose(t *testing.T) {
	for _, x := range []struct {
		of            []api.Range
		folded, other []api.Range
	}{
		{nil, nil, nil},
		{single('a'), single('A', 'a'), single('a')},
		{single('A'), single('A', 'a'), single('A')},
		{between('a', 'z'), between('A', 'Z', 'a', 'z'), between('a', 'z')},
		{between('X', 'b'), between('A', 'B', 'X', 'b', 'x', 'z'), between('X', 'b')},
		{between('X', '['), between('X', '[', 'x', 'z'), between('X', '[', ']', ']')},
		{single(0xb5), single(0xb5, 0x39c, 0x3bc), single(0xb5)},
		{single(0x39c), single(0xb5, 0x39c, 0x3bc), single(0x39c)},
		{single(0x3bc), single(0xb5, 0x39c, 0x3bc), single(0x3bc)},
		{single(0x3c2), between(0x3a3, 0x3a3, 0x3c2, 0x3c3), single(0x3c2)},
		{single(0x3a3), between(0x3a3, 0x3a3, 0x3c2, 0x3c3), single(0x3a3)},
		{single(0x3c3), between(0x3a3, 0x3a3, 0x3c2, 0x3c3), single(0x3c3)},
		{single(0x1e9e), single(0xdf, 0x1e9e), single(0x1e9e)},
		{single(0xdf), single(0xdf, 0x1e9e), single(0xdf)},
		{single(0x400), single(0x400, 0x450), single(0x400)},
		{single(0x45f), single(0x40f, 0x45f), single(0x45f)},
		{single(0x410), single(0x410, 0x430), single(0x410)},
		{single('<'), single('<'), single('<', '>')},
		{single('>'), single('>'), single('<', '>')},
		{single('('), single('('), between('(', ')')},
		{single('['), single('['), single('[', ']')},
		{single('}'), single('}'), single('{', '}')},
		{single(0xab), single(0xab), single(0xab, 0xbb)},
		{single(0x2264), single(0x2264), between(0x2264, 0x2265)},
		{single(0x226b), single(0x226b), between(0x226a, 0x226b)},
		{single(0x2329), single(0x2329), between(0x2329, 0x232a)},
		{single(0x3008), single(0x3008), between(0x3008, 0x3009)},
		{single(0x3011), single(0x3011), between(0x3010, 0x3011)},
		{between(0, api.Top), between(0, api.Top), between(0, api.Top)},
		{single('5', ' ', 0x5d0, api.Top), single(' ', '5', 0x5d0, api.Top), single(' ', '5', 0x5d0, api.Top)},
	} {
		for _, flags := range []int{0, 4} {
			checkClose(t, x.of, flags, tree.Set(x.of))
		}
		for _, flags := range []int{1, 5} {
			checkClose(t, x.of, flags, x.folded)
		}
		for _, flags := range []int{2, 6} {
			checkClose(t, x.of, flags, x.other)
		}
		for _, flags := range []int{3, 7} {
			checkClose(t, x.of, flags, tree.Set(slices.Concat(x.folded, x.other)))
		}
	}
}

// P16.1: by each of the flags, every character that is folded, folded into, or mirrored, and those beside it, alone.
func TestCloseOfEach(t *testing.T) {
	for _, c := range changed {
		for beside := c - 1; beside <= c+1; beside++ {
			checkCloses(t, single(beside))
		}
	}
}

// P16.1: no other character is more than itself behind flags.
func TestCloseOfOthers(t *testing.T) {
	for c := range 0x3100 {
		if alike[c] != nil || mirroredOf(c) != c {
			continue
		}
		for _, flags := range []int{1, 2, 3} {
			checkClose(t, single(c), flags, single(c))
		}
	}
	for c := 0x3100; c <= api.Top; c += 53 {
		checkClose(t, single(c), 3, single(c))
	}
	checkClose(t, between(0x3012, api.Top), 3, between(0x3012, api.Top))
}

// P16.1: what layers 3 and 4 say of each character is what these tests' tables say.
func TestLayersBelow(t *testing.T) {
	all := make([]int, api.Top+1)
	for c := range all {
		all[c] = c
	}
	plain := pair.Plain(all)
	for c := range all {
		if fold.Of(c) != foldedOf(c) || plain[c] != min(c, mirroredOf(c)) {
			t.Errorf("%x is folded to %x, and plain %x", c, fold.Of(c), plain[c])
		}
	}
}

// P16.1: ranges that hold many that are changed, that hold some of them, of none, of all.
func TestCloseOfRanges(t *testing.T) {
	for _, l := range [][]api.Range{
		between(0, api.Top), between(0, 0x7f), between(0x80, 0xff), between(0, 0x3011), between(0x3011, api.Top), between(0x3012, api.Top), between(0x1e9e, api.Top), between(0x1e9f, api.Top), between(1, api.Top-1),
		between('A', 'Z'), between('a', 'z'), between('@', '['), between('`', '{'), between('M', 'm'), between('Z', 'a'), between('(', '>'), between('<', '}'), between(0xaa, 0xbc), between(0xb4, 0xb6),
		between(0xc0, 0xde), between(0xe0, 0xfe), between(0xd7, 0xd7, 0xf7, 0xf7), between(0x370, 0x3ff), between(0x391, 0x3a9), between(0x3b1, 0x3c9), between(0x3a2, 0x3c2), between(0x400, 0x45f), between(0x400, 0x42f), between(0x430, 0x45f), between(0x40f, 0x410), between(0x42f, 0x430),
		between(0x2000, 0x2fff), between(0x2265, 0x226a), between(0x2200, 0x2329), between(0x232a, 0x3008), between(0x3009, 0x3010), between(0x3008, 0x3011), between(0x300b, 0x300e),
		between(-5, 'B'), between(math.MinInt, math.MaxInt), between(math.MinInt, '('), between(0x3010, math.MaxInt), between(0x10ffff, math.MaxInt), between(-9, -1), between('z', 'a'),
		digit, space, words, between('a', 'c', 'B', 'D', '[', '[', 0x5d0, 0x5ea), between('b', 'b', 'a', 'a', 'A', 'C', 'a', 'z', '9', '0', -3, -2),
	} {
		checkCloses(t, l)
	}
}

// P16.1: other flags are as their bits say.
func TestCloseByOtherFlags(t *testing.T) {
	l := single('(', 'a')
	for flags, as := range map[int]int{-1: 7, -2: 6, -3: 5, -4: 4, -8: 0, 8: 0, 9: 1, 10: 2, 11: 3, 1 << 32: 0, 1<<32 + 1: 1, math.MaxInt: 3, math.MinInt: 0, math.MinInt + 3: 3} {
		checkRanges(t, "Close by "+strconv.Itoa(flags), tree.Close(l, flags), tree.Close(l, as))
	}
}

// P16.1: 500 ranges, and 501; behind flags there may be more of them.
func TestCloseOfMany(t *testing.T) {
	letters := apart(12, 'A')
	l := append(letters, apart(488, 0x4000)...)
	for flags := range 8 {
		want := l
		if flags&1 != 0 {
			want = slices.Concat(letters, apart(12, 'a'), apart(488, 0x4000))
		}
		checkClose(t, l, flags, want)
		checkClose(t, append(l, between(1, 1)...), flags, nil)
		checkClose(t, slices.Repeat(single('a', '('), 250), flags, rangesOf(closeOf(inOf(single('(', 'a')), flags), edgesOf()))
		checkClose(t, slices.Repeat(single('a'), 501), flags, nil)
		checkClose(t, make([]api.Range, 501), flags, nil)
	}
}

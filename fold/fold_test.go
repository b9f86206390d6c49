package fold_test

import (
	"math"
	"slices"
	"testing"

	"ductus/api"
	"ductus/fold"
)

func checkOf(t *testing.T, c, want int) {
	t.Helper()
	if got := fold.Of(c); got != want {
		t.Errorf("Of %x: %x, not %x", c, got, want)
	}
}

func checkAll(t *testing.T, l, want []int) {
	t.Helper()
	if got := fold.All(l); !slices.Equal(got, want) {
		t.Errorf("All of %x: %x, not %x", l, got, want)
	}
}

func checkSame(t *testing.T, a, b []int, want bool) {
	t.Helper()
	if got := fold.Same(a, b); got != want {
		t.Errorf("Same of %x and %x: %v", a, b, got)
	}
	if got := fold.Same(b, a); got != want {
		t.Errorf("Same of %x and %x: %v", b, a, got)
	}
}

func checkKin(t *testing.T, c int, want ...int) {
	t.Helper()
	if got := fold.Kin(c); !slices.Equal(got, want) {
		t.Errorf("Kin of %x: %x, not %x", c, got, want)
	}
}

// checkItself: c is folded nowhere, and nothing else is folded into it.
func checkItself(t *testing.T, c int) {
	t.Helper()
	checkOf(t, c, c)
	checkAll(t, []int{c}, []int{c})
	checkKin(t, c, c)
	checkSame(t, []int{c}, []int{c}, true)
	for _, away := range []int{1, 0x20, 0x50, math.MinInt} {
		checkSame(t, []int{c}, []int{c + away}, false)
		checkSame(t, []int{c}, []int{c - away}, false)
	}
}

// checkSaid: each call answers of c what the chapter says.
func checkSaid(t *testing.T, o oracle, c int) {
	t.Helper()
	to := o.of(c)
	checkOf(t, c, to)
	checkAll(t, []int{c}, []int{to})
	checkKin(t, c, o.kinOf(c)...)
	checkSame(t, []int{c}, []int{to}, true)
	checkSame(t, []int{c}, []int{c}, true)
	for _, away := range []int{1, 0x20, 0x50} {
		checkSame(t, []int{c}, []int{c + away}, o.of(c+away) == to)
		checkSame(t, []int{c}, []int{c - away}, o.of(c-away) == to)
	}
}

// P4.1: the first and the last character of each range that is folded, told in full: this hangs on no table.
func TestRanges(t *testing.T) {
	for _, x := range []struct{ first, last, small int }{
		{'A', 'Z', 'a'}, {0xc0, 0xd6, 0xe0}, {0xd8, 0xde, 0xf8}, {0x391, 0x3a1, 0x3b1},
		{0x3a3, 0x3a9, 0x3c3}, {0x400, 0x40f, 0x450}, {0x410, 0x42f, 0x430},
	} {
		for c := x.first; c <= x.last; c++ {
			to := c - x.first + x.small
			checkOf(t, c, to)
			checkOf(t, to, to)
			checkAll(t, []int{c, to}, []int{to, to})
			checkSame(t, []int{c}, []int{to}, true)
			checkSame(t, []int{c}, []int{c}, true)
			checkSame(t, []int{c}, []int{to + 1}, false)
			checkSame(t, []int{c}, []int{to - 1}, to == 0x3c3)
			switch to {
			case 0x3bc:
				checkKin(t, c, 0xb5, 0x39c, 0x3bc)
				checkKin(t, to, 0xb5, 0x39c, 0x3bc)
			case 0x3c3:
				checkKin(t, c, 0x3a3, 0x3c2, 0x3c3)
				checkKin(t, to, 0x3a3, 0x3c2, 0x3c3)
			default:
				checkKin(t, c, c, to)
				checkKin(t, to, c, to)
			}
		}
	}
}

// P4.1: what stands beside each range isn't folded by it, and 45F and 44F are the last ones that are folded into.
func TestBeside(t *testing.T) {
	for _, c := range []int{
		'@', '[', '`', '{', 0xbf, 0xd7, 0xf7, 0xff, 0x390, 0x3a2, 0x3aa, 0x3b0, 0x3ca, 0x460,
		0xb4, 0xb6, 0x1e9d, 0x1e9f,
	} {
		checkItself(t, c)
	}
	checkOf(t, 0xdf, 0xdf)
	checkOf(t, 0x3ff, 0x3ff)
	checkKin(t, 0x3ff, 0x3ff)
	// Where 400 to 40F ends 410 to 42F begins, and what they are folded into stands the other way round.
	checkOf(t, 0x400, 0x450)
	checkOf(t, 0x40f, 0x45f)
	checkOf(t, 0x410, 0x430)
	checkOf(t, 0x42f, 0x44f)
	checkKin(t, 0x42f, 0x42f, 0x44f)
	checkKin(t, 0x430, 0x410, 0x430)
	checkKin(t, 0x44f, 0x42f, 0x44f)
	checkKin(t, 0x450, 0x400, 0x450)
	checkKin(t, 0x45f, 0x40f, 0x45f)
}

// P4.1: those that are folded alone, and D7, F7 and 3A2, which lie between ranges.
func TestAlone(t *testing.T) {
	checkOf(t, 0xb5, 0x3bc)
	checkOf(t, 0x3c2, 0x3c3)
	checkOf(t, 0x1e9e, 0xdf)
	for _, c := range []int{0x3bc, 0x3c3, 0xdf} {
		checkOf(t, c, c)
	}
	checkAll(t, []int{0xb5, 0x3c2, 0x1e9e}, []int{0x3bc, 0x3c3, 0xdf})
	checkAll(t, []int{0x3bc, 0x3c3, 0xdf}, []int{0x3bc, 0x3c3, 0xdf})
	for _, x := range [][]int{{0xb5, 0x39c, 0x3bc}, {0x3a3, 0x3c2, 0x3c3}, {0xdf, 0x1e9e}} {
		for _, c := range x {
			checkKin(t, c, x...)
			for _, d := range x {
				checkSame(t, []int{c}, []int{d}, true)
			}
			for _, d := range []int{'A', 's', 0xb4, 0xb6, 0x3c1, 0x3c4, 0x3bb, 0x3bd, 0xde, 0xe0, 0xff, 0x1e9d, 0x1e9f, 0x1ebe, 0x1e7e} {
				checkSame(t, []int{c}, []int{d}, false)
			}
		}
	}
	checkSame(t, []int{0xb5}, []int{0xd5}, false)
	checkSame(t, []int{0xb5}, []int{0x3c2}, false)
	checkSame(t, []int{0xdf}, []int{0xff}, false)
	checkSame(t, []int{0xdf}, []int{'s', 's'}, false)
	for _, c := range []int{0xd7, 0xf7, 0x3a2} {
		checkItself(t, c)
		checkSame(t, []int{c}, []int{c + 0x20}, false)
	}
}

// P4.1: each call, at the ends of what is folded, at what stands beside them, and at what the chapter doesn't name.
func TestAsked(t *testing.T) {
	o := newOracle()
	for _, c := range asked() {
		checkSaid(t, o, c)
	}
}

// P4.1: ordinary characters are themselves, and so are numbers that are no characters, though they be folded in fewer bits.
func TestItself(t *testing.T) {
	for _, c := range ordinary {
		checkItself(t, c)
	}
	for _, c := range noCharacters {
		checkItself(t, c)
	}
	for c := 0xd800; c <= 0xdfff; c++ {
		checkItself(t, c)
	}
	for c := range becomes() {
		for _, away := range []int{1 << 16, 1 << 21, 1 << 31, 1 << 32, 1 << 62, -1 << 16, -1 << 21, -1 << 31, -1 << 32, math.MinInt} {
			checkItself(t, c+away)
			checkSame(t, []int{c}, []int{c + away}, false)
		}
		checkItself(t, -c)
		checkItself(t, ^c)
	}
}

// P4.1: every character up to the last that is folded, and some way beyond; the higher ones in Of and Kin.
func TestEach(t *testing.T) {
	o := newOracle()
	for c := -0x1000; c <= 0x2000; c++ {
		checkSaid(t, o, c)
	}
	for c := 0x2001; c <= api.Top+0x1000; c += 61 {
		checkItself(t, c)
	}
	for c := 0x2001; c <= 2*api.Top; c++ {
		if fold.Of(c) != c {
			t.Errorf("Of %x: %x", c, fold.Of(c))
		}
	}
}

// P4.1: All of each, in order, as many as there are: none, one, many.
func TestAll(t *testing.T) {
	checkAll(t, nil, nil)
	checkAll(t, []int{}, nil)
	checkAll(t, []int{'A'}, []int{'a'})
	checkAll(t, []int{'a'}, []int{'a'})
	checkAll(t, []int{'1'}, []int{'1'})
	checkAll(t, []int{-7}, []int{-7})
	checkAll(t, []int{'A', 'b', 'C'}, []int{'a', 'b', 'c'})
	checkAll(t, []int{'A', 'A', 'a', 'A'}, []int{'a', 'a', 'a', 'a'})
	checkAll(t, []int{'1', 'Z', 0x410, 0x400, 0xb5, 0x5d0}, []int{'1', 'z', 0x430, 0x450, 0x3bc, 0x5d0})
	checkAll(t, []int{'A', -1, 'B', 0xd841, 'C', api.Top + 1, 'D', 1<<32 + 'A'}, []int{'a', -1, 'b', 0xd841, 'c', api.Top + 1, 'd', 1<<32 + 'A'})
	checkAll(t, noCharacters, noCharacters)

	o := newOracle()
	l := asked()
	var want []int
	for _, c := range l {
		want = append(want, o.of(c))
	}
	checkAll(t, l, want)
	slices.Reverse(l)
	slices.Reverse(want)
	checkAll(t, l, want)
}

// P4.1: All of more characters than a text may have.
func TestAllOfMany(t *testing.T) {
	for _, n := range []int{api.MaxText, api.MaxText + 1, 1 << 18} {
		got := fold.All(slices.Repeat([]int{0x1e9e}, n))
		if !slices.Equal(got, slices.Repeat([]int{0xdf}, n)) {
			t.Errorf("All of %d characters: %d, or not all folded", n, len(got))
		}
	}
}

// P4.1: Same of lists that are folded alike, told in full.
func TestSame(t *testing.T) {
	checkSame(t, nil, nil, true)
	checkSame(t, []int{}, nil, true)
	checkSame(t, []int{}, []int{}, true)
	checkSame(t, []int{'a'}, []int{'A'}, true)
	checkSame(t, []int{'A'}, []int{'A'}, true)
	checkSame(t, []int{'H', 'e', 'L', 'l', 'O'}, []int{'h', 'E', 'l', 'L', 'o'}, true)
	checkSame(t, []int{0x3a3, 0x3c2, 0x3c3}, []int{0x3c2, 0x3c3, 0x3a3}, true)
	checkSame(t, []int{0xb5, 0x39c, 0x1e9e, 0x400}, []int{0x39c, 0x3bc, 0xdf, 0x450}, true)
	checkSame(t, []int{'1', 0x5d0, 0x627, api.Bad}, []int{'1', 0x5d0, 0x627, api.Bad}, true)
	checkSame(t, []int{-1, 0xd800, api.Top + 1, math.MaxInt, math.MinInt}, []int{-1, 0xd800, api.Top + 1, math.MaxInt, math.MinInt}, true)
}

// P4.1: Same of lists of two lengths, though one begins or ends as the other one.
func TestSameOfTwoLengths(t *testing.T) {
	checkSame(t, nil, []int{'a'}, false)
	checkSame(t, []int{}, []int{0}, false)
	checkSame(t, []int{'a'}, []int{'a', 'a'}, false)
	checkSame(t, []int{'a', 'b'}, []int{'A', 'B', 'C'}, false)
	checkSame(t, []int{'b', 'c'}, []int{'A', 'B', 'C'}, false)
	checkSame(t, []int{'a', 'b', 'c'}, []int{'a', 'b', 'c', 0}, false)
	checkSame(t, []int{'a', 'a', 'a', 'a'}, []int{'a', 'a'}, false)
	checkSame(t, []int{'s', 's'}, []int{0x1e9e}, false)
}

// P4.1: Same of two that part in one place, the first, the last, or any between.
func TestSameButOne(t *testing.T) {
	for _, n := range []int{1, 2, 3, 8, 100} {
		var great, small []int
		for i := range n {
			great = append(great, 'A'+i%26)
			small = append(small, 'a'+i%26)
		}
		checkSame(t, great, small, true)
		for i := range n {
			for _, c := range []int{small[i] + 1, great[i] - 1, small[i] + 0x20, great[i] - 0x20, 1<<32 + small[i], -great[i], 0, '1'} {
				parted := slices.Clone(small)
				parted[i] = c
				checkSame(t, great, parted, false)
				checkSame(t, small, parted, false)
			}
		}
	}
	checkSame(t, []int{'a', 'b', 'c'}, []int{'x', 'B', 'C'}, false)
	checkSame(t, []int{'a', 'b', 'c'}, []int{'A', 'x', 'C'}, false)
	checkSame(t, []int{'a', 'b', 'c'}, []int{'A', 'B', 'x'}, false)
	checkSame(t, []int{'a', 'b'}, []int{'b', 'a'}, false)
}

// P4.1: Kin, told in full: the chapter's example, one, two and three of them, great and small ones.
func TestKin(t *testing.T) {
	checkKin(t, 0x3c3, 0x3a3, 0x3c2, 0x3c3)
	checkKin(t, 0x3a3, 0x3a3, 0x3c2, 0x3c3)
	checkKin(t, 0x3c2, 0x3a3, 0x3c2, 0x3c3)
	checkKin(t, 0xb5, 0xb5, 0x39c, 0x3bc)
	checkKin(t, 0x39c, 0xb5, 0x39c, 0x3bc)
	checkKin(t, 0x3bc, 0xb5, 0x39c, 0x3bc)
	checkKin(t, 0xdf, 0xdf, 0x1e9e)
	checkKin(t, 0x1e9e, 0xdf, 0x1e9e)
	checkKin(t, 'Q', 'Q', 'q')
	checkKin(t, 'q', 'Q', 'q')
	checkKin(t, 'A', 'A', 'a')
	checkKin(t, 'z', 'Z', 'z')
	checkKin(t, 0xff, 0xff)
	checkKin(t, '1', '1')
	checkKin(t, 0, 0)
	checkKin(t, 0x5d0, 0x5d0)
	checkKin(t, api.Bad, api.Bad)
	checkKin(t, api.Top, api.Top)
	checkKin(t, api.Top+1, api.Top+1)
	checkKin(t, -1, -1)
	checkKin(t, 0xd800, 0xd800)
	checkKin(t, math.MaxInt, math.MaxInt)
	checkKin(t, math.MinInt, math.MinInt)
}

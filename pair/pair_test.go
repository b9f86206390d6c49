package pair_test

import (
	"math"
	"slices"
	"testing"

	"ductus/api"
	"ductus/pair"
)

func checkOther(t *testing.T, c, other int, opens, ok bool) {
	t.Helper()
	if o, f, is := pair.Other(c); o != other || f != opens || is != ok {
		t.Errorf("Other of %x: %x %v %v, not %x %v %v", c, o, f, is, other, opens, ok)
	}
}

func checkMirror(t *testing.T, c, mirror int, mirrored bool) {
	t.Helper()
	if got := pair.Mirror(c); got != mirror {
		t.Errorf("Mirror of %x: %x, not %x", c, got, mirror)
	}
	if got := pair.Mirrored(c); got != mirrored {
		t.Errorf("Mirrored of %x: %v", c, got)
	}
}

func checkSame(t *testing.T, a, b int, want bool) {
	t.Helper()
	if got := pair.Same(a, b); got != want {
		t.Errorf("Same of %x and %x: %v", a, b, got)
	}
}

func checkPlain(t *testing.T, l, want []int) {
	t.Helper()
	if got := pair.Plain(l); !slices.Equal(got, want) {
		t.Errorf("Plain of %x: %x, not %x", l, got, want)
	}
}

// checkNothing: c is neither a bracket nor mirrored, and isn't the same as itself.
func checkNothing(t *testing.T, c int) {
	t.Helper()
	checkOther(t, c, 0, false, false)
	checkMirror(t, c, c, false)
	checkSame(t, c, c, false)
	checkPlain(t, []int{c}, []int{c})
}

// checkFact: each call answers of c what the chapter says.
func checkFact(t *testing.T, c int, f fact) {
	t.Helper()
	checkOther(t, c, f.other, f.opens, f.is)
	checkMirror(t, c, f.mirror, f.mirrored)
	checkSame(t, c, c, f.is)
	checkPlain(t, []int{c}, []int{min(c, f.mirror)})
}

// P3.1: each bracket, the one that opens and the one that closes, told in full: this hangs on no table.
func TestBrackets(t *testing.T) {
	for _, x := range []struct{ opening, closing int }{
		{'(', ')'}, {'[', ']'}, {'{', '}'}, {0x2329, 0x232a}, {0x3008, 0x3009},
		{0x300a, 0x300b}, {0x300c, 0x300d}, {0x300e, 0x300f}, {0x3010, 0x3011},
	} {
		checkOther(t, x.opening, x.closing, true, true)
		checkOther(t, x.closing, x.opening, false, true)
		checkMirror(t, x.opening, x.closing, true)
		checkMirror(t, x.closing, x.opening, true)
		checkSame(t, x.opening, x.opening, true)
		checkSame(t, x.closing, x.closing, true)
		checkSame(t, x.opening, x.closing, false)
		checkSame(t, x.closing, x.opening, false)
		checkPlain(t, []int{x.opening}, []int{x.opening})
		checkPlain(t, []int{x.closing}, []int{x.opening})
	}
}

// P3.1: what is mirrored, and is no bracket.
func TestSigns(t *testing.T) {
	for _, x := range []struct{ less, more int }{{'<', '>'}, {0xab, 0xbb}, {0x2264, 0x2265}, {0x226a, 0x226b}} {
		for _, c := range []int{x.less, x.more} {
			checkOther(t, c, 0, false, false)
			checkSame(t, c, c, false)
			checkPlain(t, []int{c}, []int{x.less})
		}
		checkMirror(t, x.less, x.more, true)
		checkMirror(t, x.more, x.less, true)
		checkSame(t, x.less, x.more, false)
		checkSame(t, x.more, x.less, false)
	}
}

// P3.1: 2329 and 232A are 3008 and 3009 as brackets; but their other ones, and what they are mirrored into, are their own.
func TestTwoWays(t *testing.T) {
	// The chapter's example.
	checkSame(t, 0x2329, 0x3008, true)
	checkSame(t, 0x3008, 0x2329, true)
	checkSame(t, 0x232a, 0x3009, true)
	checkSame(t, 0x3009, 0x232a, true)
	checkSame(t, 0x2329, 0x3009, false)
	checkSame(t, 0x3009, 0x2329, false)
	checkSame(t, 0x232a, 0x3008, false)
	checkSame(t, 0x3008, 0x232a, false)
	checkOther(t, 0x2329, 0x232a, true, true)
	checkOther(t, 0x232a, 0x2329, false, true)
	checkOther(t, 0x3008, 0x3009, true, true)
	checkOther(t, 0x3009, 0x3008, false, true)
	checkMirror(t, 0x2329, 0x232a, true)
	checkMirror(t, 0x232a, 0x2329, true)
	checkPlain(t, []int{0x2329, 0x232a, 0x3008, 0x3009}, []int{0x2329, 0x2329, 0x3008, 0x3008})
	for _, c := range []int{0x2327, 0x2328, 0x232b, 0x232c, 0x3006, 0x3007} {
		checkNothing(t, c)
		for _, x := range []int{0x2329, 0x232a, 0x3008, 0x3009} {
			checkSame(t, c, x, false)
			checkSame(t, x, c, false)
		}
	}
}

// P3.1: each call, at all that is told, at what stands beside it, and at what the chapter doesn't name.
func TestAsked(t *testing.T) {
	all := facts()
	for _, c := range asked() {
		checkFact(t, c, factOf(c, all))
	}
}

// P3.1: ordinary characters are no brackets and aren't mirrored, nor are numbers that are no characters, though they be brackets in fewer bits.
func TestNothing(t *testing.T) {
	for _, c := range ordinary {
		checkNothing(t, c)
	}
	for _, c := range noCharacters {
		checkNothing(t, c)
	}
	for c := 0xd800; c <= 0xdfff; c++ {
		checkNothing(t, c)
	}
	for _, c := range told() {
		for _, away := range []int{1 << 16, 1 << 21, 1 << 31, 1 << 32, 1 << 62, -1 << 16, -1 << 21, -1 << 31, -1 << 32, math.MinInt} {
			checkNothing(t, c+away)
		}
		checkNothing(t, -c)
		checkNothing(t, ^c)
	}
}

// P3.1: every character up to the last bracket, and some way beyond; of higher ones, each in one call or another.
func TestAll(t *testing.T) {
	all := facts()
	for c := -0x1000; c <= 0x3100; c++ {
		checkFact(t, c, factOf(c, all))
	}
	for c := 0x3101; c <= api.Top+0x1000; c += 61 {
		checkNothing(t, c)
	}
	var l []int
	for c := 0x3100; c <= 2*api.Top; c++ {
		l = append(l, c)
	}
	if !slices.Equal(pair.Plain(l), l) {
		t.Error("a character above the brackets isn't plain")
	}
}

// P3.1: Same of any two that are asked: both must be brackets, and one.
func TestSame(t *testing.T) {
	all := facts()
	one := func(c int) int {
		return map[int]int{0x2329: 0x3008, 0x232a: 0x3009}[c]
	}
	l := asked()
	slices.Sort(l)
	l = slices.Compact(l)
	for _, a := range l {
		for _, b := range l {
			checkSame(t, a, b, all[a].is && all[b].is && (a == b || one(a) == b || one(b) == a))
		}
	}
	// Told in full, by no table.
	checkSame(t, '(', '(', true)
	checkSame(t, '(', ')', false)
	checkSame(t, '(', '[', false)
	checkSame(t, ')', ']', false)
	checkSame(t, '{', '(', false)
	checkSame(t, 0x300a, 0x3008, false)
	checkSame(t, 0x300c, 0x300e, false)
	checkSame(t, '(', 'a', false)
	checkSame(t, 'a', '(', false)
	checkSame(t, 'a', 'a', false)
	checkSame(t, '<', '<', false)
	checkSame(t, 0, 0, false)
	checkSame(t, 0, '(', false)
	checkSame(t, '(', 0, false)
	checkSame(t, -1, -1, false)
	checkSame(t, '(', 1<<32+'(', false)
	checkSame(t, 1<<32+'(', 1<<32+'(', false)
}

// P3.1: Plain of each, in order, as many as there are.
func TestPlain(t *testing.T) {
	checkPlain(t, nil, nil)
	checkPlain(t, []int{}, nil)
	checkPlain(t, []int{')'}, []int{'('})
	checkPlain(t, []int{'('}, []int{'('})
	checkPlain(t, []int{'x'}, []int{'x'})
	checkPlain(t, []int{-7}, []int{-7})
	checkPlain(t, []int{'a', ')', '(', 'b'}, []int{'a', '(', '(', 'b'})
	checkPlain(t, []int{'(', ')', ')', '('}, []int{'(', '(', '(', '('})
	checkPlain(t, []int{')', '(', '>', 'x', 0xbb}, []int{'(', '(', '<', 'x', 0xab})
	checkPlain(t, []int{']', '}', 0x3011, 0x2265, 0x226b, 0x300f}, []int{'[', '{', 0x3010, 0x2264, 0x226a, 0x300e})
	checkPlain(t, []int{')', -1, ')', 0xd800, ')', api.Top + 1, ')', 1<<32 + ')'}, []int{'(', -1, '(', 0xd800, '(', api.Top + 1, '(', 1<<32 + ')'})
	checkPlain(t, noCharacters, noCharacters)

	all := facts()
	l := asked()
	var want []int
	for _, c := range l {
		want = append(want, min(c, factOf(c, all).mirror))
	}
	checkPlain(t, l, want)
	slices.Reverse(l)
	slices.Reverse(want)
	checkPlain(t, l, want)
}

// P3.1: Plain of more characters than a text may have.
func TestPlainOfMany(t *testing.T) {
	for _, n := range []int{api.MaxText, api.MaxText + 1, 1 << 18} {
		got := pair.Plain(slices.Repeat([]int{'>'}, n))
		if !slices.Equal(got, slices.Repeat([]int{'<'}, n)) {
			t.Errorf("Plain of %d characters: %d, or not all plain", n, len(got))
		}
	}
}

package tree_test

import (
	"math"
	"slices"
	"testing"

	"ductus/api"
	"ductus/sample"
	"ductus/tree"
)

func checkSet(t *testing.T, l, want []api.Range) {
	t.Helper()
	checkRanges(t, "Set of "+sample.ShowRanges(l), tree.Set(l), want)
	checkRanges(t, "Close without flags of "+sample.ShowRanges(l), tree.Close(l, 0), want)
}

// P16.1: no ranges, one, and such as begin at 0, or end at Top.
func TestSetOfOne(t *testing.T) {
	checkSet(t, nil, nil)
	checkSet(t, []api.Range{}, nil)
	checkSet(t, []api.Range{{}}, between(0, 0))
	for _, l := range [][]api.Range{between(5, 9), between(5, 5), between(0, 0), between(0, 7), between(api.Top, api.Top), between(api.Top-3, api.Top), between(0, api.Top), between('a', 'z'), between(0xd800, 0xdfff), between(1, 0x10fffe)} {
		checkSet(t, l, l)
	}
}

// P16.1: two that touch, that lie within one another, that are the same, that have some characters in common, that are one character apart, and two; the other way round, too.
func TestSetOfTwo(t *testing.T) {
	for _, x := range [][2][]api.Range{
		{between(1, 2, 3, 4), between(1, 4)}, {between(1, 1, 2, 2), between(1, 2)}, {between(0, 0, 1, 1), between(0, 1)}, {between(0, 4, 5, api.Top), between(0, api.Top)},
		{between(1, 9, 3, 4), between(1, 9)}, {between(1, 9, 1, 4), between(1, 9)}, {between(1, 9, 4, 9), between(1, 9)}, {between(0, api.Top, 5, 5), between(0, api.Top)},
		{between(1, 9, 1, 9), between(1, 9)}, {between(4, 4, 4, 4), between(4, 4)},
		{between(1, 5, 4, 9), between(1, 9)}, {between(1, 5, 5, 9), between(1, 9)},
		{between(1, 2, 4, 5), between(1, 2, 4, 5)}, {between(1, 1, 3, 3), between(1, 1, 3, 3)}, {between(0, 0, 2, api.Top), between(0, 0, 2, api.Top)}, {between(0, 0, api.Top, api.Top), between(0, 0, api.Top, api.Top)},
		{between(1, 2, 5, 6), between(1, 2, 5, 6)}, {between(1, 1, 4, 4), between(1, 1, 4, 4)},
		{between(api.Top-1, api.Top-1, api.Top, api.Top), between(api.Top-1, api.Top)}, {between(api.Top-2, api.Top-2, api.Top, api.Top), between(api.Top-2, api.Top-2, api.Top, api.Top)},
		{between('a', 'c', 'e', 'g'), between('a', 'c', 'e', 'g')}, {between(0, 0x10fffe, api.Top, api.Top), between(0, api.Top)},
	} {
		checkSet(t, x[0], x[1])
		checkSet(t, []api.Range{x[0][1], x[0][0]}, x[1])
	}
}

// everyOrder: ranges in each order.
func everyOrder(l []api.Range, yield func([]api.Range)) {
	if len(l) == 0 {
		yield(nil)
		return
	}
	for i := range l {
		left := slices.Concat(l[:i], l[i+1:])
		everyOrder(left, func(behind []api.Range) { yield(append([]api.Range{l[i]}, behind...)) })
	}
}

// P16.1: several, in every order.
func TestSetInEveryOrder(t *testing.T) {
	for _, x := range [][2][]api.Range{
		{between(1, 2, 3, 3, 5, 9, 8, 12, 20, 19, -5, -1), between(1, 3, 5, 12)},
		{between(1, 20, 2, 3, 5, 6, 22, 23, 24, 30), between(1, 20, 22, 30)},
		{between(1, 1, 2, 2, 3, 3, 4, 4, 5, 5, 6, 6), between(1, 6)},
		{between(1, 1, 3, 3, 5, 5, 7, 7, 9, 9), between(1, 1, 3, 3, 5, 5, 7, 7, 9, 9)},
		{between(1, 10, 1, 3, 1, 6, 10, 12, 14, 14), between(1, 12, 14, 14)},
		{between(api.Top, api.Top+9, api.Top-4, api.Top-2, -9, 4, 6, 6, 5, 4), between(0, 4, 6, 6, api.Top-4, api.Top-2, api.Top, api.Top)},
		{between(0, 0, 1, api.Top, 5, 7, 9, 2, math.MinInt, -1), between(0, api.Top)},
	} {
		many := 0
		everyOrder(x[0], func(l []api.Range) {
			many++
			checkSet(t, l, x[1])
		})
		if many < 120 {
			t.Errorf("only %d orders", many)
		}
	}
}

// P16.1: Low above High: nothing is of it, wherever it stands.
func TestSetLowAboveHigh(t *testing.T) {
	for _, l := range [][]api.Range{between(1, 0), between(9, 5), between(20, 19), between(api.Top, 0), between(0, -1), between(api.Top+1, api.Top), between(5, -3), between(api.Top+9, 4), between(api.Top+9, -4), between(math.MaxInt, math.MinInt), between(0, math.MinInt), between(math.MaxInt, 0), between(math.MaxInt, math.MaxInt-1), between(math.MinInt+1, math.MinInt)} {
		checkSet(t, l, nil)
		checkSet(t, append(between(7, 8), l...), between(7, 8))
		checkSet(t, append(l, between(7, 8, 0, 0)...), between(0, 0, 7, 8))
		checkSet(t, append(between(0, 3, 5, api.Top), l...), between(0, 3, 5, api.Top))
	}
	// Were it there, it would join both.
	checkSet(t, between(1, 2, 3, 2, 4, 5), between(1, 2, 4, 5))
	checkSet(t, between(1, 2, 5, 3, 4, 6), between(1, 2, 4, 6))
}

// P16.1: what is below 0, or above Top, and what is so in part; with the least and the greatest whole numbers.
func TestSetBeyond(t *testing.T) {
	for _, l := range [][]api.Range{between(-1, -1), between(-9, -2), between(math.MinInt, -1), between(math.MinInt, math.MinInt), between(api.Top+1, api.Top+1), between(api.Top+1, math.MaxInt), between(math.MaxInt, math.MaxInt), between(1<<32+'a', 1<<32+'z'), between(-1<<32+'a', -1<<32+'z'), between(1<<62, 1<<62+5)} {
		checkSet(t, l, nil)
		checkSet(t, append(l, between(3, 5)...), between(3, 5))
		checkSet(t, append(between(0, 0, api.Top, api.Top), l...), between(0, 0, api.Top, api.Top))
	}
	for _, x := range [][2][]api.Range{
		{between(-1, 0), between(0, 0)}, {between(-5, 3), between(0, 3)}, {between(math.MinInt, 0), between(0, 0)}, {between(math.MinInt, 9), between(0, 9)},
		{between(api.Top, api.Top+1), between(api.Top, api.Top)}, {between(api.Top-4, math.MaxInt), between(api.Top-4, api.Top)}, {between(7, math.MaxInt), between(7, api.Top)},
		{between(-1, api.Top+1), between(0, api.Top)}, {between(math.MinInt, math.MaxInt), between(0, api.Top)}, {between(-5, 1<<32), between(0, api.Top)},
		{between(-5, 3, -9, -7, 4, 6), between(0, 6)}, {between(-5, -1, 0, 2), between(0, 2)}, {between(-5, -1, 1, 2), between(1, 2)},
		{between(api.Top, math.MaxInt, 3, api.Top-2), between(3, api.Top-2, api.Top, api.Top)}, {between(math.MaxInt-1, math.MaxInt, math.MinInt, math.MinInt+1), nil},
		{between(0, math.MaxInt, 5, 9), between(0, api.Top)}, {between(math.MinInt, 4, 3, math.MaxInt), between(0, api.Top)}, {between(math.MinInt, 4, 6, math.MaxInt), between(0, 4, 6, api.Top)},
	} {
		checkSet(t, x[0], x[1])
	}
}

// apart: so many ranges of one character, one apart.
func apart(many, from int) []api.Range {
	var out []api.Range
	for i := range many {
		out = append(out, between(from+2*i, from+2*i)...)
	}
	return out
}

// P16.1: 500 ranges, and 501; it counts how many are handed in, not how many are left.
func TestSetOfMany(t *testing.T) {
	for _, n := range []int{1, 2, 255, 256, 257, 499, 500} {
		l := apart(n, 0x4000)
		checkSet(t, l, l)
		slices.Reverse(l)
		checkSet(t, l, apart(n, 0x4000))
		checkSet(t, slices.Repeat(between(3, 4), n), between(3, 4))
	}
	for _, n := range []int{501, 502, 512, 1000, 5000} {
		checkSet(t, apart(n, 0x4000), nil)
		checkSet(t, slices.Repeat(between(3, 4), n), nil)
		checkSet(t, slices.Repeat(between(4, 3), n), nil)
		checkSet(t, append(slices.Repeat(between(4, 3), n-1), between(1, 1)...), nil)
		checkSet(t, append(slices.Repeat(between(-4, -3), n-1), between(0, api.Top)...), nil)
		checkSet(t, make([]api.Range, n), nil)
	}
	checkSet(t, append(slices.Repeat(between(4, 3), 499), between(1, 1)...), between(1, 1))
	checkSet(t, make([]api.Range, 500), between(0, 0))
}

// P16.1: each short list of some ranges, by the chapter's words.
func TestShortSets(t *testing.T) {
	var all []api.Range
	for low := -1; low <= 4; low++ {
		for high := -1; high <= 4; high++ {
			all = append(all, between(low, high)...)
		}
	}
	for _, a := range all {
		for _, b := range all {
			for _, c := range all {
				l := []api.Range{a, b, c}
				got := tree.Set(l)
				of := func(x int) bool { return 0 <= x && inOf(l)(x) }
				var want []api.Range
				for x := range 5 {
					switch {
					case of(x) && of(x-1):
						want[len(want)-1].High = x
					case of(x):
						want = append(want, between(x, x)...)
					}
				}
				if !slices.Equal(got, want) {
					t.Fatalf("Set of %s: %s, not %s", sample.ShowRanges(l), sample.ShowRanges(got), sample.ShowRanges(want))
				}
			}
		}
	}
}

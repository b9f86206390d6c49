package tree_test

import (
	"math"
	"testing"

	"ductus/api"
	"ductus/sample"
	"ductus/tree"
)

func checkTurn(t *testing.T, l, want []api.Range) {
	t.Helper()
	checkRanges(t, "Turn of "+sample.ShowRanges(l), tree.Turn(l), want)
}

// P16.1: none turned round is all, all turned round is none.
func TestTurnOfNoneAndAll(t *testing.T) {
	all := between(0, api.Top)
	checkTurn(t, nil, all)
	checkTurn(t, []api.Range{}, all)
	for _, l := range [][]api.Range{between(5, 4), between(-9, -1), between(api.Top+1, api.Top+1), between(math.MaxInt, math.MinInt, math.MinInt, -1, api.Top+1, math.MaxInt)} {
		checkTurn(t, l, all)
	}
	for _, l := range [][]api.Range{all, between(0, 4, 5, api.Top), between(math.MinInt, math.MaxInt), between(-1, 9, 3, api.Top+1), between(7, api.Top, 0, 6)} {
		checkTurn(t, l, nil)
	}
}

// P16.1: what begins at 0, ends at Top, both, or neither; in any order, and not least.
func TestTurn(t *testing.T) {
	for _, x := range [][2][]api.Range{
		{between(0, 0), between(1, api.Top)}, {between(0, 9), between(10, api.Top)}, {between(-3, 9), between(10, api.Top)}, {between(0, api.Top-1), between(api.Top, api.Top)},
		{between(api.Top, api.Top), between(0, api.Top-1)}, {between(9, api.Top), between(0, 8)}, {between(9, math.MaxInt), between(0, 8)}, {between(1, api.Top), between(0, 0)},
		{between(0, 4, 9, api.Top), between(5, 8)}, {between(0, 4, 6, api.Top), between(5, 5)}, {between(0, 0, api.Top, api.Top), between(1, api.Top-1)},
		{between(1, 1), between(0, 0, 2, api.Top)}, {between('a', 'z'), between(0, 'a'-1, 'z'+1, api.Top)}, {between(1, api.Top-1), between(0, 0, api.Top, api.Top)}, {between(api.Top-1, api.Top-1), between(0, api.Top-2, api.Top, api.Top)},
		{between(1, 2, 4, 5), between(0, 0, 3, 3, 6, api.Top)}, {between(4, 5, 1, 2), between(0, 0, 3, 3, 6, api.Top)}, {between(1, 2, 3, 5, 4, 4), between(0, 0, 6, api.Top)},
		{between(5, 9, 1, 2, 3, 3, 8, 12, 20, 19, -5, -1, api.Top, api.Top+9), between(0, 0, 4, 4, 13, api.Top-1)},
		{between(0, 2, 4, 6, 8, 10), between(3, 3, 7, 7, 11, api.Top)},
	} {
		checkTurn(t, x[0], x[1])
	}
}

// P16.1: 500 ranges turned round; 501 are no set, so all is turned out of it.
func TestTurnOfMany(t *testing.T) {
	for _, n := range []int{499, 500} {
		want := between(0, 0x3fff)
		for i := range n - 1 {
			want = append(want, between(0x4001+2*i, 0x4001+2*i)...)
		}
		checkTurn(t, apart(n, 0x4000), append(want, between(0x4000+2*n-1, api.Top)...))
	}
	checkTurn(t, apart(501, 0x4000), between(0, api.Top))
	checkTurn(t, make([]api.Range, 501), between(0, api.Top))
	checkTurn(t, make([]api.Range, 500), between(1, api.Top))
}

func checkHas(t *testing.T, l []api.Range, c int, want bool) {
	t.Helper()
	if got := tree.Has(l, c); got != want {
		t.Errorf("Has of %s and %x: %t", sample.Head(sample.ShowRanges(l)), c, got)
	}
}

// P16.1: at each edge, and beside it; of one range, and of several, in any order.
func TestHas(t *testing.T) {
	for _, c := range []int{0, 1, -1, 'a', api.Top, math.MaxInt, math.MinInt} {
		checkHas(t, nil, c, false)
		checkHas(t, []api.Range{}, c, false)
		checkHas(t, between(c, c), c, true)
		checkHas(t, between(9, 9, c, c, 7, 7), c, true)
		checkHas(t, between(math.MinInt, math.MaxInt), c, true)
		checkHas(t, between(math.MaxInt, math.MinInt), c, false)
	}
	for _, r := range [][2]int{{5, 9}, {5, 6}, {0, 3}, {api.Top - 2, api.Top}, {-7, -3}, {-7, 4}, {api.Top + 2, api.Top + 9}, {1 << 32, 1<<32 + 8}} {
		for _, ahead := range [][]api.Range{nil, between(4, 3), between(100, 200, 60, 70)} {
			l := append(ahead, between(r[0], r[1])...)
			checkHas(t, l, r[0]-1, false)
			checkHas(t, l, r[0], true)
			checkHas(t, l, r[0]+1, true)
			checkHas(t, l, r[1]-1, true)
			checkHas(t, l, r[1], true)
			checkHas(t, l, r[1]+1, false)
		}
	}
	checkHas(t, between(math.MinInt, -5), math.MinInt, true)
	checkHas(t, between(math.MinInt, -5), math.MaxInt, false)
	checkHas(t, between(5, math.MaxInt), math.MaxInt, true)
	checkHas(t, between(5, math.MaxInt), math.MinInt, false)
	checkHas(t, between('a', 'z'), 'A', false)
	checkHas(t, between('a', 'z'), 1<<32+'b', false)
	checkHas(t, between('a', 'z'), 'b'-1<<32, false)
}

// P16.1: ranges that aren't least, and more than a set takes.
func TestHasOfAnyRanges(t *testing.T) {
	l := between(5, 9, 1, 2, 3, 3, 8, 12, 20, 19, -5, -1, api.Top, api.Top+9)
	for c := -9; c < 30; c++ {
		checkHas(t, l, c, -5 <= c && c <= -1 || 1 <= c && c <= 3 || 5 <= c && c <= 12)
	}
	for c := api.Top - 5; c < api.Top+20; c++ {
		checkHas(t, l, c, api.Top <= c && c <= api.Top+9)
	}
	many := apart(2000, 0x4000)
	for c := 0x3ffe; c < 0x4000+4002; c++ {
		checkHas(t, many, c, 0x4000 <= c && c <= 0x4000+3998 && c%2 == 0)
	}
}

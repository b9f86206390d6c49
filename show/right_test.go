package show_test

import (
	"math"
	"slices"
	"testing"

	"ductus/api"
	"ductus/sample"
	"ductus/show"
)

// P17.1: of each Kind there is one that may be shown, of no other number.
func TestKinds(t *testing.T) {
	a := char('a')
	for kind, n := range []api.Node{1: empty, 2: a, 3: join(a, a), 4: either(a, a), 5: repeat(1, 1, a), 6: start, 7: stop} {
		if kind > 0 {
			checkRight(t, n)
		} else {
			checkArg(t, n)
		}
		if n.Kind != kind {
			t.Errorf("the kind %d is told as %d", kind, n.Kind)
		}
	}
	for _, kind := range []int{0, 8, 9, 99, -1, -2, -5, 1<<8 + 1, 1<<16 + 5, 1<<32 + 1, 1<<32 + 2, 1 << 40, -1 << 32, math.MaxInt32, math.MinInt32, math.MaxInt, math.MinInt} {
		for _, n := range []api.Node{{Kind: kind}, {Kind: kind, Ranges: between(1, 2)}, {Kind: kind, Kids: []api.Node{a, a}}, {Kind: kind, Low: 1, High: 2, Kids: []api.Node{a}}} {
			checkArg(t, n)
			checkArg(t, join(a, n))
			checkArg(t, repeat(0, -1, either(n, a)))
		}
	}
}

// wrapped: a tree as one of others' Kids, the first one, one between, the last one, and so deep as may be.
func wrapped(n api.Node) []api.Node {
	a := char('a')
	out := []api.Node{n, join(n, a), join(a, n), either(a, n, a), either(a, a, n), repeat(0, -1, n), repeat(20, 20, join(a, either(a, repeat(2, 3, n)), a))}
	deep := n
	for range 50 {
		deep = repeat(1, 2, deep)
	}
	return append(out, deep, join(deep, a), either(a, deep))
}

// P17.1: each kind with each of the parts that it may not have, one at a time, also deep down.
func TestNothingBut(t *testing.T) {
	a := char('a')
	some := []int{1, -1, 2, 20, 1 << 32, math.MaxInt, math.MinInt}
	for _, n := range []api.Node{empty, start, stop, a, set(), set(1, 2, 4, 5), join(a, start), either(a, empty), join(a, a, a), repeat(0, 1, a), repeat(3, -1, empty)} {
		for _, whole := range wrapped(n) {
			checkRight(t, whole)
		}
		var wrong []api.Node
		change := func(to func(n *api.Node)) {
			other := sample.Copied(n)
			to(&other)
			wrong = append(wrong, other)
		}
		for _, number := range some {
			if n.Kind != 5 {
				change(func(n *api.Node) { n.Low = number })
				change(func(n *api.Node) { n.High = number })
				change(func(n *api.Node) { n.Low, n.High = number, number })
			}
		}
		if n.Kind != 2 {
			for _, l := range [][]api.Range{between(0, 0), between('a', 'a'), between(1, 2, 4, 5), between(2, 1), make([]api.Range, 500), make([]api.Range, 600)} {
				change(func(n *api.Node) { n.Ranges = l })
			}
		}
		if len(n.Kids) == 0 {
			for _, kid := range []api.Node{{}, a, empty, {Kind: 8}, join(a, a)} {
				change(func(n *api.Node) { n.Kids = []api.Node{kid} })
				change(func(n *api.Node) { n.Kids = []api.Node{kid, kid} })
			}
		}
		for _, other := range wrong {
			for _, whole := range wrapped(other) {
				checkArg(t, whole)
			}
		}
	}
}

// P17.1: what is empty may be nil or not.
func TestEmptyParts(t *testing.T) {
	for _, n := range []api.Node{empty, start, stop, char('a'), set(), join(char('a'), empty), either(empty, set()), repeat(0, -1, stop)} {
		checkRight(t, n)
		checkRight(t, sample.Copied(n))
	}
}

// P17.1: sets of ranges that are least, and of such that aren't.
func TestRanges(t *testing.T) {
	for _, l := range [][]api.Range{nil, {}, between(0, 0), between(0, api.Top), between(api.Top, api.Top), between(5, 9), between(0, 1, 3, 4), between(0, 0, 2, 2, 4, 4), between(1, 2, 4, 9), between(7, 7, 9, 9), between('a', 'z', 0xd800, 0xdfff, api.Top, api.Top), between(0, api.Top-2, api.Top, api.Top)} {
		for _, whole := range wrapped(api.Node{Kind: 2, Ranges: l}) {
			checkRight(t, whole)
		}
	}
	for _, l := range [][]api.Range{
		// That touch, that have some in common, that are the same, that fall.
		between(0, 1, 2, 3), between(7, 7, 8, 8), between(1, 5, 5, 9), between(1, 5, 4, 9), between(1, 9, 3, 4), between(3, 3, 3, 3), between(1, 9, 1, 9), between(4, 9, 1, 2), between(3, 3, 1, 1), between(1, 2, 7, 8, 4, 5), between(0, api.Top-1, api.Top, api.Top),
		between(1, 2, 4, 5, 6, 7), between(1, 2, 3, 4, 9, 9), between(0, api.Top, 5, 6),
		// Whose Low is above their High.
		between(2, 1), between(1, 0), between(0, -1), between(1, 2, 5, 4), between(5, 4, 7, 8), between(math.MaxInt, math.MinInt), between(api.Top, 0),
		// That are below 0, or above Top.
		between(-1, -1), between(-1, 0), between(-1, 5), between(math.MinInt, 5), between(math.MinInt, math.MaxInt), between(-5, -3, 0, 1), between(api.Top+1, api.Top+1), between(api.Top, api.Top+1), between(5, api.Top+1), between(0, math.MaxInt), between(1, 2, math.MaxInt, math.MaxInt), between(1, 2, api.Top+5, api.Top+9), between(1<<32, 1<<32+5), between(1<<32+'a', 1<<32+'a'), between(math.MinInt, math.MinInt),
	} {
		for _, whole := range wrapped(api.Node{Kind: 2, Ranges: l}) {
			checkArg(t, whole)
		}
	}
}

// P17.1: each two ranges of small numbers.
func TestTwoRanges(t *testing.T) {
	for l := range sample.Every([]int{-1, 0, 1, 2, 3, 4, 5}, 4) {
		if len(l)%2 == 0 {
			checkOracle(t, set(l...))
		}
	}
	for l := range sample.Every([]int{-2, api.Top - 2, api.Top - 1, api.Top, api.Top + 1}, 4) {
		if len(l)%2 == 0 {
			checkOracle(t, set(l...))
		}
	}
}

// P17.1: joins and ors of no Kid, one, two and three; repeats of none, one and two.
func TestKids(t *testing.T) {
	for _, kid := range []api.Node{empty, start, stop, char('a'), set(), join(char('a'), stop), either(char('a'), stop), repeat(0, 1, stop)} {
		for many := range 5 {
			kids := slices.Repeat([]api.Node{kid}, many)
			for _, kind := range []int{3, 4} {
				if n := (api.Node{Kind: kind, Kids: kids}); many >= 2 {
					checkRight(t, n)
				} else {
					checkArg(t, n)
				}
			}
			if n := repeat(2, 3, kids...); many == 1 {
				checkRight(t, n)
			} else {
				checkArg(t, n)
			}
		}
	}
	a := char('a')
	for _, n := range []api.Node{join(), join(a), either(), either(a), repeat(0, 1), repeat(0, 1, a, a), repeat(0, -1), repeat(1, 1, empty, empty)} {
		for _, whole := range wrapped(n) {
			checkArg(t, whole)
		}
	}
}

// P17.1: repeats by each Low and High from -2 to 21, and by very great and very small ones.
func TestTimes(t *testing.T) {
	right := 0
	for low := -2; low <= 21; low++ {
		for high := -2; high <= 21; high++ {
			n := repeat(low, high, char('a'))
			checkOracle(t, n)
			checkOracle(t, join(char('b'), n))
			if show.Right(n) {
				right++
			}
		}
	}
	// 21 with High -1, and of each Low those from it up to 20.
	if want := 21 + 21*22/2; right != want {
		t.Errorf("%d repeats may be shown, not %d", right, want)
	}
	for _, x := range [][2]int{{0, 0}, {0, -1}, {0, 1}, {0, 20}, {1, 1}, {1, -1}, {20, 20}, {20, -1}, {19, 20}} {
		checkRight(t, repeat(x[0], x[1], char('a')))
	}
	great := []int{21, 22, -2, -3, -20, 1 << 8, 1 << 16, 1 << 32, 1<<32 + 1, 1<<32 - 1, -1 << 32, math.MaxInt32, math.MinInt32, math.MaxInt - 1, math.MaxInt, math.MinInt, math.MinInt + 1}
	for _, a := range great {
		for _, b := range []int{-1, 0, 1, 2, 20} {
			checkArg(t, repeat(b, a, char('a')))
			checkArg(t, repeat(a, b, char('a')))
		}
		for _, b := range great {
			checkArg(t, repeat(a, b, char('a')))
			checkArg(t, join(empty, either(empty, repeat(a, b, char('a')))))
		}
	}
	for _, b := range []int{-1, -2, math.MinInt} {
		checkArg(t, repeat(b, -1, char('a')))
		checkArg(t, repeat(b, 5, char('a')))
		checkArg(t, repeat(b, 0, char('a')))
	}
	for _, x := range [][2]int{{1, 0}, {2, 1}, {20, 19}, {20, 0}, {21, 21}, {21, -1}, {20, 21}, {0, 21}, {0, -2}} {
		for _, whole := range wrapped(repeat(x[0], x[1], char('a'))) {
			checkArg(t, whole)
		}
	}
}

// wide: a tree of so many nodes, most of them Kids of one.
func wide(kind, many int, kid api.Node) api.Node {
	return api.Node{Kind: kind, Kids: slices.Repeat([]api.Node{kid}, many-1)}
}

// P17.1: 400 nodes, and 401; how often they are repeated says nothing.
func TestNodes(t *testing.T) {
	for _, kid := range []api.Node{empty, start, stop, set()} {
		for _, kind := range []int{3, 4} {
			for _, many := range []int{101, 399, 400} {
				checkRight(t, wide(kind, many, kid))
			}
			for _, many := range []int{401, 402, 500, 100000} {
				checkArg(t, wide(kind, many, kid))
			}
			checkRight(t, repeat(20, 20, wide(kind, 399, kid)))
			checkArg(t, repeat(0, 0, wide(kind, 400, kid)))
			checkRight(t, join(wide(kind, 200, kid), wide(kind, 199, kid)))
			checkArg(t, join(wide(kind, 200, kid), wide(kind, 200, kid)))
			checkArg(t, either(wide(kind, 199, kid), wide(kind, 199, kid), empty, empty))
		}
		// Each other one is a repeat: 1 and 199 of 2 each, and one.
		checkRight(t, join(append(slices.Repeat([]api.Node{repeat(2, 20, kid)}, 199), kid)...))
		checkArg(t, join(append(slices.Repeat([]api.Node{repeat(2, 20, kid)}, 199), kid, kid)...))
		checkArg(t, join(slices.Repeat([]api.Node{repeat(0, 0, kid)}, 200)...))
	}
	checkRight(t, repeat(20, 20, repeat(20, 20, repeat(20, 20, wide(3, 397, empty)))))
}

// apart: so many ranges of one character, none of which touch.
func apart(many int) []api.Range {
	var out []api.Range
	for i := range many {
		out = append(out, between(0x4000+2*i, 0x4000+2*i)...)
	}
	return out
}

// P17.1: 400 ranges, and 401, in one set, and in several.
func TestManyRanges(t *testing.T) {
	of := func(many int) api.Node { return api.Node{Kind: 2, Ranges: apart(many)} }
	for _, many := range []int{198, 199, 399, 400} {
		checkRight(t, of(many))
	}
	for _, many := range []int{401, 402, 500, 501, 502, 1000} {
		checkArg(t, of(many))
	}
	checkRight(t, join(of(200), of(200)))
	checkArg(t, join(of(200), of(201)))
	checkArg(t, join(of(201), of(200)))
	checkArg(t, join(of(400), char('a')))
	checkRight(t, join(of(400), set(), stop))
	checkRight(t, join(char('a'), repeat(2, 3, either(of(99), set())), of(300)))
	checkArg(t, join(char('a'), repeat(2, 3, either(of(99), char('b'))), of(300)))
	checkRight(t, repeat(20, 20, of(400)))
	checkRight(t, either(slices.Repeat([]api.Node{of(8)}, 50)...))
	checkArg(t, either(append(slices.Repeat([]api.Node{of(8)}, 50), char('a'))...))
	// 400 nodes and 400 ranges, and one of them less.
	checkRight(t, join(append(slices.Repeat([]api.Node{char('a')}, 398), of(2))...))
	checkArg(t, join(append(slices.Repeat([]api.Node{char('a')}, 398), of(3))...))
	checkArg(t, join(append(slices.Repeat([]api.Node{char('a')}, 399), of(1))...))
}

// within: a tree within so many others of a kind, ahead of another Kid, or behind it.
func within(n api.Node, kind, many int, ahead bool) api.Node {
	for range many {
		switch {
		case kind == 5:
			n = repeat(0, 1, n)
		case ahead:
			n = api.Node{Kind: kind, Kids: []api.Node{n, empty}}
		default:
			n = api.Node{Kind: kind, Kids: []api.Node{empty, n}}
		}
	}
	return n
}

// P17.1: 100 deep, and 101, by each kind that has Kids, up to 200.
func TestDeep(t *testing.T) {
	for _, n := range []api.Node{empty, start, stop, char('a'), set()} {
		for _, kind := range []int{3, 4, 5} {
			for _, ahead := range []bool{true, false} {
				for _, many := range []int{20, 21, 98, 99} {
					checkRight(t, within(n, kind, many, ahead))
				}
				for _, many := range []int{100, 101, 150, 199, 200} {
					checkArg(t, within(n, kind, many, ahead))
				}
				checkArg(t, join(empty, within(n, kind, 99, ahead)))
				checkRight(t, join(empty, within(n, kind, 98, ahead), n))
			}
			checkRight(t, within(within(within(n, 5, 33, true), 3, 33, true), 4, 33, false))
			checkArg(t, within(within(within(n, 5, 33, true), 3, 33, true), 4, 34, false))
			checkArg(t, within(within(within(n, 5, 34, true), 3, 33, true), 4, 33, false))
		}
	}
}

// P17.1: a tree whose parts share their Kids has far more of them than could be gone through; it is told all the same.
func TestSharedTrees(t *testing.T) {
	for _, kind := range []int{3, 4} {
		for _, many := range []int{9, 50, 98, 99, 100, 200} {
			n := char('a')
			for range many {
				n = api.Node{Kind: kind, Kids: []api.Node{n, n}}
			}
			if l, e := show.Pattern(n); show.Right(n) || len(l) > 0 || e != api.ErrArg {
				t.Errorf("of Kids that are shared, %d deep: error %d", many, e)
			}
		}
		n := char('a')
		for range 7 {
			n = api.Node{Kind: kind, Kids: []api.Node{n, n}}
		}
		checkRight(t, n)
	}
	ring := api.Node{Kind: 3, Kids: make([]api.Node, 300)}
	for i := range ring.Kids {
		ring.Kids[i] = api.Node{Kind: 3, Kids: slices.Repeat([]api.Node{empty}, 300)}
	}
	checkArg(t, ring)
}

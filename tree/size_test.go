package tree_test

import (
	"math"
	"math/big"
	"slices"
	"testing"

	"ductus/api"
	"ductus/sample"
	"ductus/tree"
)

// Trees as a test tells them.
var (
	between = sample.Between
	set     = sample.Set
	char    = sample.Char
	join    = sample.Join
	either  = sample.Either
	repeat  = sample.Repeat

	empty = api.Node{Kind: 1}
	start = api.Node{Kind: 6}
	stop  = api.Node{Kind: 7}
)

func checkSize(t *testing.T, n api.Node, want int) {
	t.Helper()
	if got := tree.Size(n); got != want {
		t.Errorf("Size of %s: %d, not %d", sample.Head(sample.ShowTree(n)), got, want)
	}
}

// checkSizeOf: by the chapter's words, however great it is.
func checkSizeOf(t *testing.T, n api.Node) {
	t.Helper()
	want := sizeOf(n)
	if most := big.NewInt(1000000); want.Cmp(most) > 0 {
		want = most
	}
	checkSize(t, n, int(want.Int64()))
}

// P16.1: one of each kind, of kinds that there aren't, and of those that have Kids.
func TestSize(t *testing.T) {
	for _, kind := range []int{0, 1, 2, 3, 4, 6, 7, 8, 99, -1, 1<<32 + 5, math.MaxInt, math.MinInt} {
		one := api.Node{Kind: kind}
		checkSize(t, one, 1)
		// Their numbers say nothing.
		checkSize(t, api.Node{Kind: kind, Low: 7, High: 9, Ranges: between(1, 2, 4, 5)}, 1)
		checkSize(t, api.Node{Kind: kind, Low: 7, High: 9, Kids: []api.Node{one}}, 2)
		checkSize(t, api.Node{Kind: kind, Low: 3, High: -1, Kids: []api.Node{one, one, one}}, 4)
	}
	checkSize(t, char('a'), 1)
	checkSize(t, set(1, 2, 4, 5, 7, 8), 1)
	checkSize(t, join(char('a'), char('b')), 3)
	checkSize(t, either(char('a'), join(start, char('b')), empty), 6)
	checkSize(t, join(either(char('a'), stop), join(start, char('b'), empty)), 8)
	checkSize(t, join(slices.Repeat([]api.Node{empty}, 5000)...), 5001)
}

// P16.1: repeats with High 0, 1, 2 and below 0, with Low 0, 1, 2 and very great: Low says nothing, unless High is below 0.
func TestSizeOfRepeats(t *testing.T) {
	kid := join(char('a'), char('b'))
	for _, low := range []int{0, 1, 2, 3, 20, 1 << 40, math.MaxInt, -1, -2, math.MinInt} {
		for high, want := range map[int]int{0: 4, 1: 4, 2: 7, 3: 10, 20: 61, 333332: 999997, 333333: 1000000, 333334: 1000000} {
			checkSize(t, repeat(low, high, kid), want)
		}
	}
	for _, high := range []int{-1, -2, -20, -1 << 40, math.MinInt} {
		for low, want := range map[int]int{0: 4, 1: 7, 2: 10, 3: 13, 20: 64, 333331: 999997, 333332: 1000000, 333333: 1000000, 1 << 32: 1000000, 1 << 62: 1000000, math.MaxInt - 1: 1000000, math.MaxInt: 1000000, -1: 4, -2: 4, -20: 4, math.MinInt: 4} {
			checkSize(t, repeat(low, high, kid), want)
		}
	}
	checkSize(t, repeat(0, 0, char('a')), 2)
	checkSize(t, repeat(0, -1, char('a')), 2)
	checkSize(t, repeat(1, -1, char('a')), 3)
	checkSize(t, repeat(3, -1, char('a')), 5)
	checkSize(t, repeat(0, 1, repeat(0, -1, repeat(1, -1, char('a')))), 5)
	checkSize(t, repeat(2, 20, repeat(0, 20, char('a'))), 421)
	// None of a Kid, and several.
	for _, n := range []int{0, 1, 5, -1, math.MaxInt, math.MinInt} {
		checkSize(t, repeat(n, n), 1)
		checkSize(t, repeat(0, n), 1)
		checkSize(t, repeat(n, -1), 1)
	}
	checkSize(t, repeat(0, 4, char('a'), kid), 17)
}

// P16.1: just at 1000000, below it and above it, by repeats and by Kids.
func TestSizeOfGreatTrees(t *testing.T) {
	one := char('a')
	for high, want := range map[int]int{999997: 999998, 999998: 999999, 999999: 1000000, 1000000: 1000000, 1000001: 1000000, 1 << 32: 1000000, 1<<32 + 1: 1000000, 1 << 40: 1000000, 1 << 62: 1000000, math.MaxInt - 1: 1000000, math.MaxInt: 1000000} {
		checkSize(t, repeat(0, high, one), want)
		checkSize(t, repeat(high-1, -1, one), want)
		checkSize(t, join(repeat(0, high, one)), min(want+1, 1000000))
	}
	big := repeat(0, 999996, one)
	checkSize(t, big, 999997)
	checkSize(t, join(big, one), 999999)
	checkSize(t, join(big, one, one), 1000000)
	checkSize(t, join(one, one, big, one), 1000000)
	checkSize(t, either(one, one, one, big, one, big, big), 1000000)
	checkSize(t, repeat(0, 1, join(big, one)), 1000000)
	checkSize(t, repeat(0, 0, big), 999998)
	checkSize(t, repeat(0, 2, big), 1000000)
	checkSize(t, repeat(0, 1, repeat(0, 1, repeat(0, 1, big))), 1000000)
	checkSize(t, join(slices.Repeat([]api.Node{empty}, 999998)...), 999999)
	checkSize(t, join(slices.Repeat([]api.Node{empty}, 999999)...), 1000000)
	checkSize(t, join(slices.Repeat([]api.Node{empty}, 1000000)...), 1000000)
}

// P16.1: no product and no sum is ever cut off by a number's own greatest.
func TestSizeWithNoOverflow(t *testing.T) {
	great := []int{2, 3, 1 << 16, 1 << 20, 1 << 31, 1 << 32, 1 << 33, 1 << 62, math.MaxInt / 2, math.MaxInt - 1, math.MaxInt, 3037000500, 6074001000}
	for _, a := range great {
		for _, b := range great {
			checkSizeOf(t, repeat(0, a, repeat(0, b, char('a'))))
			checkSizeOf(t, repeat(a, -1, repeat(b, math.MinInt, char('a'))))
			checkSizeOf(t, repeat(a, -1, repeat(0, b, join(char('a'), empty))))
			checkSizeOf(t, join(repeat(0, a, stop), repeat(0, b, stop), repeat(0, a, stop), repeat(0, b, stop)))
		}
	}
}

// P16.1: mixed trees, by the chapter's words.
func TestSizeOfMixedTrees(t *testing.T) {
	for n := range mixedTrees(3000) {
		checkSizeOf(t, n)
	}
}

// mixedTrees: so many trees, by a rule, always the same ones.
func mixedTrees(many int) func(yield func(api.Node) bool) {
	return func(yield func(api.Node) bool) {
		for l := range sample.MixedOf([]int{0, 1, 2, 3, 4, 5, 6, 7, 8, 9}, many, 40) {
			n, _ := treeFrom(l, 6)
			if !yield(n) {
				return
			}
		}
	}
}

// treeFrom: a tree by numbers, at most so deep; what is left of them.
func treeFrom(l []int, deep int) (api.Node, []int) {
	if len(l) < 4 || deep == 0 {
		return empty, nil
	}
	n := api.Node{Kind: l[0]}
	kids := l[1] % 4
	numbers := []int{0, 1, 2, 3, 20, -1, -7, 1000, 70000, math.MaxInt}
	switch l[0] {
	case 2:
		n.Ranges = between(l[1], l[2], l[1]+5, l[3]+20)[:l[1]%3]
		kids = 0
	case 5, 9:
		n.Kind, n.Low, n.High = 5, numbers[l[2]], numbers[l[3]]
		kids = 1
	}
	l = l[4:]
	for range kids {
		var kid api.Node
		kid, l = treeFrom(l, deep-1)
		n.Kids = append(n.Kids, kid)
	}
	return n, l
}

// nested: a tree within so many others, of some kinds in turn.
func nested(n api.Node, many int) api.Node {
	for i := range many {
		switch i % 3 {
		case 0:
			n = join(char('a'), n)
		case 1:
			n = either(n, empty)
		default:
			n = repeat(0, 1, n)
		}
	}
	return n
}

// P16.1: trees within 200 others.
func TestSizeOfDeepTrees(t *testing.T) {
	for _, many := range []int{1, 20, 21, 100, 199, 200} {
		checkSizeOf(t, nested(char('a'), many))
	}
	n := char('a')
	for range 200 {
		n = repeat(0, 1, n)
	}
	checkSize(t, n, 201)
	for range 200 {
		n = api.Node{Kind: 5, High: 2, Kids: []api.Node{n}}
	}
	checkSize(t, n, 1000000)
}

// P16.1: as soon as it is above 1000000 it is told: of a tree whose parts share their Kids there is far more than could be gone through.
func TestSizeOfSharedTrees(t *testing.T) {
	for _, kind := range []int{3, 4} {
		n := char('a')
		for range 200 {
			n = api.Node{Kind: kind, Kids: []api.Node{n, n}}
		}
		checkSize(t, n, 1000000)
		n = char('a')
		for range 18 {
			n = api.Node{Kind: kind, Kids: []api.Node{n, n}}
		}
		checkSize(t, n, 1<<19-1)
	}
}

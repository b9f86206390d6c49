package tree_test

import (
	"math"
	"slices"
	"testing"

	"ductus/api"
	"ductus/sample"
	"ductus/tree"
)

func checkSame(t *testing.T, a, b api.Node, want bool) {
	t.Helper()
	for _, x := range [][2]api.Node{{a, b}, {b, a}} {
		if got := tree.Same(x[0], x[1]); got != want {
			t.Errorf("Same of %s and %s: %t", sample.Head(sample.ShowTree(x[0])), sample.Head(sample.ShowTree(x[1])), got)
		}
	}
}

// whole: a tree with all that may be in one.
func whole() api.Node {
	return join(char('a'), either(set('0', '9', 'a', 'f'), empty, join(start, stop)), repeat(2, -1, repeat(0, 1, set())), set(1, 3, 5, 7, 9, api.Top), char('a'))
}

// P16.1: trees that are the same; what is empty may be nil or not.
func TestSame(t *testing.T) {
	for _, n := range []api.Node{{}, empty, start, stop, char('a'), set(), set('0', '9', 'a', 'f'), join(), join(char('a'), char('b')), either(char('a'), empty), repeat(0, -1, char('a')), repeat(3, 7, empty), {Kind: 99, Low: 1, High: math.MinInt, Ranges: between(9, 3), Kids: []api.Node{{Kind: -1}}}, whole()} {
		checkSame(t, n, n, true)
		checkSame(t, n, sample.Copied(n), true)
		checkSame(t, join(n, n), join(sample.Copied(n), n), true)
	}
	checkSame(t, api.Node{Kind: 2}, api.Node{Kind: 2, Ranges: []api.Range{}, Kids: []api.Node{}}, true)
}

// P16.1: such that differ in one thing alone: in Kind, in Low, in High, in how many Ranges or Kids, in one Range, in one Kid.
func TestNotSame(t *testing.T) {
	base := api.Node{Kind: 5, Low: 2, High: 3, Ranges: between(1, 2, 4, 5, 7, 8), Kids: []api.Node{char('a'), empty, char('b')}}
	for _, change := range []func(n *api.Node){
		func(n *api.Node) { n.Kind = 4 },
		func(n *api.Node) { n.Kind = 0 },
		func(n *api.Node) { n.Kind += 1 << 32 },
		func(n *api.Node) { n.Low = 3 },
		func(n *api.Node) { n.Low = -2 },
		func(n *api.Node) { n.Low += 1 << 32 },
		func(n *api.Node) { n.High = 2 },
		func(n *api.Node) { n.High = -1 },
		func(n *api.Node) { n.High += 1 << 32 },
		func(n *api.Node) { n.Low, n.High = n.High, n.Low },
		func(n *api.Node) { n.Ranges = n.Ranges[:2] },
		func(n *api.Node) { n.Ranges = n.Ranges[1:] },
		func(n *api.Node) { n.Ranges = nil },
		func(n *api.Node) { n.Ranges = append(n.Ranges, n.Ranges[2]) },
		func(n *api.Node) { n.Ranges[0].Low = 0 },
		func(n *api.Node) { n.Ranges[0].High = 3 },
		func(n *api.Node) { n.Ranges[1].Low = 5 },
		func(n *api.Node) { n.Ranges[1].High = 4 },
		func(n *api.Node) { n.Ranges[2].Low = 6 },
		func(n *api.Node) { n.Ranges[2].High = api.Top },
		func(n *api.Node) { slices.Reverse(n.Ranges) },
		func(n *api.Node) { n.Ranges[0], n.Ranges[1] = n.Ranges[1], n.Ranges[0] },
		func(n *api.Node) { n.Kids = n.Kids[:2] },
		func(n *api.Node) { n.Kids = n.Kids[1:] },
		func(n *api.Node) { n.Kids = nil },
		func(n *api.Node) { n.Kids = append(n.Kids, empty) },
		func(n *api.Node) { n.Kids[0] = char('c') },
		func(n *api.Node) { n.Kids[1] = api.Node{} },
		func(n *api.Node) { n.Kids[2] = set('b', 'b', 'd', 'd') },
		func(n *api.Node) { n.Kids[2].Kids = []api.Node{empty} },
		func(n *api.Node) { n.Kids[1].Low = 1 },
		func(n *api.Node) { n.Kids[1].High = -1 },
		func(n *api.Node) { slices.Reverse(n.Kids) },
	} {
		other := sample.Copied(base)
		change(&other)
		checkSame(t, base, other, false)
		checkSame(t, join(char('x'), base), join(char('x'), other), false)
		checkSame(t, other, sample.Copied(other), true)
		for _, many := range []int{1, 2, 3, 50, 200} {
			checkSame(t, nested(base, many), nested(other, many), false)
		}
	}
	// What is the same as a set, or matches the same, isn't the same tree.
	checkSame(t, set(1, 2, 3, 4), set(1, 4), false)
	checkSame(t, set(1, 2, 1, 2), set(1, 2), false)
	checkSame(t, join(char('a')), char('a'), false)
	checkSame(t, join(), empty, false)
	checkSame(t, repeat(1, 1, char('a')), char('a'), false)
	checkSame(t, either(char('a'), char('b')), either(char('b'), char('a')), false)
	checkSame(t, repeat(0, -1, char('a')), repeat(0, -2, char('a')), false)
	checkSame(t, api.Node{}, empty, false)
}

// P16.1: one thing that differs anywhere in a tree.
func TestNotSameAnywhere(t *testing.T) {
	base := whole()
	all := sample.Copied(base)
	for i := range sample.Nodes(&all) {
		for _, change := range []func(n *api.Node){
			func(n *api.Node) { n.Kind++ },
			func(n *api.Node) { n.Low++ },
			func(n *api.Node) { n.High-- },
			func(n *api.Node) { n.Ranges = append(n.Ranges, api.Range{}) },
			func(n *api.Node) { n.Kids = append(n.Kids, empty) },
		} {
			other := sample.Copied(base)
			change(sample.Nodes(&other)[i])
			checkSame(t, base, other, false)
		}
	}
}

// P16.1: trees within 200 others that are the same, and mixed ones: they are the same just if they are shown alike.
func TestSameOfMixedTrees(t *testing.T) {
	for _, many := range []int{1, 20, 21, 199, 200} {
		checkSame(t, nested(whole(), many), sample.Copied(nested(whole(), many)), true)
		checkSame(t, nested(whole(), many), nested(whole(), many-1), false)
	}
	ahead := empty
	for n := range mixedTrees(2000) {
		checkSame(t, n, sample.Copied(n), true)
		checkSame(t, n, ahead, sample.ShowTree(n) == sample.ShowTree(ahead))
		ahead = n
	}
}

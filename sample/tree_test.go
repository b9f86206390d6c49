package sample_test

import (
	"math"
	"slices"
	"testing"

	"ductus/api"
	"ductus/sample"
)

// Trees that are told have the kinds, ranges, numbers and Kids that they say.
func TestTellTrees(t *testing.T) {
	a := sample.Char('a')
	for text, n := range map[string]api.Node{
		"2":                         sample.Set(),
		"2[61..61]":                 a,
		"2[30..39 61..7a]":          sample.Set('0', '9', 'a', 'z'),
		"3":                         sample.Join(),
		"3(2[61..61] 2[61..61])":    sample.Join(a, a),
		"4(2[61..61] 2[61..61] 1)":  sample.Either(a, a, api.Node{Kind: 1}),
		"5(2[61..61])":              sample.Repeat(0, 0, a),
		"5{2,-1}":                   sample.Repeat(2, -1),
		"5{0,3}(3(2[61..61]) 6 7)":  sample.Repeat(0, 3, sample.Join(a), api.Node{Kind: 6}, api.Node{Kind: 7}),
		"0":                         {},
		"-8{0,7}[9..2 -1..a](0 0)":  {Kind: -8, High: 7, Ranges: sample.Between(9, 2, -1, 10), Kids: make([]api.Node, 2)},
		"9223372036854775807{-1,0}": {Kind: math.MaxInt, Low: -1},
	} {
		if got := sample.ShowTree(n); got != text {
			t.Errorf("%s, not %s", got, text)
		}
	}
	if l := sample.Between(1, 2, 5, 4); !slices.Equal(l, []api.Range{{Low: 1, High: 2}, {Low: 5, High: 4}}) || len(sample.Between()) != 0 {
		t.Error(l)
	}
}

// changes: each makes another tree of one.
var changes = []func(n *api.Node){
	func(n *api.Node) { n.Kind++ },
	func(n *api.Node) { n.Low++ },
	func(n *api.Node) { n.High-- },
	func(n *api.Node) { n.Ranges = append(n.Ranges, api.Range{}) },
	func(n *api.Node) { n.Kids = append(n.Kids, api.Node{}) },
	func(n *api.Node) { n.Kids = []api.Node{{Kind: n.Kind, Kids: n.Kids}} },
}

// A tree that is copied is shown as it was, has its own memory, and is shown otherwise when one thing differs anywhere in it; its nodes are all there.
func TestCopied(t *testing.T) {
	whole := sample.Join(sample.Char('a'), sample.Either(sample.Set('0', '9', 'a', 'f'), api.Node{Kind: 1}), sample.Repeat(2, -1, sample.Repeat(0, 1, sample.Set())), api.Node{Kind: 6})
	was := sample.ShowTree(whole)
	if all := sample.Nodes(&whole); len(all) != 9 || all[0] != &whole || all[1] != &whole.Kids[0] || all[8] != &whole.Kids[3] || all[6] != &whole.Kids[2].Kids[0] {
		t.Errorf("%d nodes, or others", len(all))
	}
	met := map[string]bool{was: true}
	for i := range 9 {
		for _, change := range changes {
			other := sample.Copied(whole)
			if sample.ShowTree(other) != was {
				t.Errorf("%s is copied as %s", was, sample.ShowTree(other))
			}
			change(sample.Nodes(&other)[i])
			text := sample.ShowTree(other)
			if met[text] {
				t.Errorf("two trees are shown as %s", text)
			}
			met[text] = true
		}
	}
	other := sample.Copied(whole)
	for _, n := range sample.Nodes(&other) {
		for i := range n.Ranges {
			n.Ranges[i].Low = 77
		}
		n.Kind = 99
	}
	if sample.ShowTree(whole) != was {
		t.Errorf("%s is %s", was, sample.ShowTree(whole))
	}
}

// Mixed trees are the same ones each time, of each number of nodes up to the most, each kind within each other one, each leaf, and each repeat there.
func TestTrees(t *testing.T) {
	leaves := []api.Node{{Kind: 1}, sample.Char('a'), sample.Set(), {Kind: 6}, {Kind: 7}}
	times := [][2]int{{0, -1}, {2, 3}}
	collect := func() []string {
		var out []string
		for n := range sample.Trees(leaves, times, 400, 6) {
			out = append(out, sample.ShowTree(n))
		}
		return out
	}
	texts := collect()
	if len(texts) != 400 || !slices.Equal(texts, collect()) {
		t.Errorf("%d trees, not 400 that are the same ones each time", len(texts))
	}
	var long [7]int
	met := map[[2]int]bool{}
	for n := range sample.Trees(leaves, times, 400, 6) {
		all := sample.Nodes(&n)
		long[len(all)]++
		for _, node := range all {
			met[[2]int{100, node.Low*50 + node.High}] = true
			for _, kid := range node.Kids {
				met[[2]int{node.Kind, kid.Kind}] = true
			}
			if kids := len(node.Kids); node.Kind == 5 && kids != 1 || (node.Kind == 3 || node.Kind == 4) && (kids < 2 || kids > 4) {
				t.Errorf("of %d Kids: %s", kids, sample.ShowTree(n))
			}
		}
	}
	if slices.Contains(long[1:], 0) || long[0] > 0 || len(met) != 3+3*7 {
		t.Errorf("so many trees have so many nodes: %d; met are %v", long, met)
	}
	for n := range sample.Trees(leaves, times, 400, 6) {
		if n.Kind == 3 {
			break
		}
	}
}

// Of a long text there is the beginning, of a short one all.
func TestHead(t *testing.T) {
	if sample.Head("abc") != "abc" || len(sample.Head(string(make([]byte, 5000)))) > 700 {
		t.Error(sample.Head("abc"))
	}
}

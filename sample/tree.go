package sample

import (
	"iter"
	"strconv"
	"strings"

	"ductus/api"
)

// Between: ranges of a Low, a High, and so on.
func Between(ends ...int) []api.Range {
	var out []api.Range
	for i := 0; i < len(ends); i += 2 {
		out = append(out, api.Range{Low: ends[i], High: ends[i+1]})
	}
	return out
}

// Set: a tree of ranges, of a Low, a High, and so on.
func Set(ends ...int) api.Node {
	return api.Node{Kind: api.NodeSet, Ranges: Between(ends...)}
}

// Char: a tree of one character.
func Char(c int) api.Node {
	return Set(c, c)
}

// Join: trees one behind the other.
func Join(kids ...api.Node) api.Node {
	return api.Node{Kind: api.NodeJoin, Kids: kids}
}

// Either: one of some trees.
func Either(kids ...api.Node) api.Node {
	return api.Node{Kind: api.NodeOr, Kids: kids}
}

// Repeat: a tree so often; of none, or of several, it is wrong.
func Repeat(low, high int, kids ...api.Node) api.Node {
	return api.Node{Kind: api.NodeRepeat, Low: low, High: high, Kids: kids}
}

// ShowTree: a tree as a text, that no other one has; what is nil or empty is the same.
func ShowTree(n api.Node) string {
	out := strconv.Itoa(n.Kind)
	if n.Low != 0 || n.High != 0 {
		out += "{" + strconv.Itoa(n.Low) + "," + strconv.Itoa(n.High) + "}"
	}
	if len(n.Ranges) > 0 {
		out += ShowRanges(n.Ranges)
	}
	if len(n.Kids) == 0 {
		return out
	}
	var kids []string
	for _, kid := range n.Kids {
		kids = append(kids, ShowTree(kid))
	}
	return out + "(" + strings.Join(kids, " ") + ")"
}

// ShowRanges: ranges as a text, that no others have.
func ShowRanges(l []api.Range) string {
	var out []string
	for _, r := range l {
		out = append(out, strconv.FormatInt(int64(r.Low), 16)+".."+strconv.FormatInt(int64(r.High), 16))
	}
	return "[" + strings.Join(out, " ") + "]"
}

// Head: of a very long text the beginning.
func Head(text string) string {
	if most := 600; len(text) > most {
		return text[:most] + "..."
	}
	return text
}

// Copied: the same tree, in other memory, what is empty in it not nil.
func Copied(n api.Node) api.Node {
	out := api.Node{Kind: n.Kind, Low: n.Low, High: n.High, Ranges: append([]api.Range{}, n.Ranges...), Kids: []api.Node{}}
	for _, kid := range n.Kids {
		out.Kids = append(out.Kids, Copied(kid))
	}
	return out
}

// Nodes: all nodes of a tree, where they stand, each ahead of its Kids.
func Nodes(n *api.Node) []*api.Node {
	out := []*api.Node{n}
	for i := range n.Kids {
		out = append(out, Nodes(&n.Kids[i])...)
	}
	return out
}

// Trees: so many trees, by a rule, always the same ones, of up to so many nodes: some that have no Kids, joins and ors of two to four, and repeats, at least and at most as often as one of times says.
func Trees(leaves []api.Node, times [][2]int, many, most int) iter.Seq[api.Node] {
	var numbers []int
	for i := range 1000 {
		numbers = append(numbers, i)
	}
	return func(yield func(api.Node) bool) {
		for l := range MixedOf(numbers, many, most) {
			if len(l) == 0 {
				l = []int{0}
			}
			if !yield(treeOf(l, leaves, times)) {
				return
			}
		}
	}
}

// treeOf: a tree with a node for each of some numbers.
func treeOf(l []int, leaves []api.Node, times [][2]int) api.Node {
	first, left := l[0], l[1:]
	switch {
	case len(left) == 0:
		return Copied(leaves[first%len(leaves)])
	case len(left) == 1 || first%3 == 0:
		often := times[first/3%len(times)]
		return Repeat(often[0], often[1], treeOf(left, leaves, times))
	}
	n := api.Node{Kind: []int{api.NodeJoin, api.NodeOr}[first%3-1]}
	for kids := min(2+first/3%3, len(left)); kids > 1; kids-- {
		own := 1 + left[0]/2%(len(left)-kids+1)
		n.Kids = append(n.Kids, treeOf(left[:own], leaves, times))
		left = left[own:]
	}
	n.Kids = append(n.Kids, treeOf(left, leaves, times))
	return n
}

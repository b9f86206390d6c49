package show

import (
	"slices"
	"strconv"

	"ductus/api"
	"ductus/token"
)

// written: the pattern of a node that may be shown.
func written(n api.Node) []int {
	switch n.Kind {
	case api.NodeEmpty:
		return chars("()")
	case api.NodeStart:
		return chars("^")
	case api.NodeStop:
		return chars("$")
	case api.NodeSet:
		return set(n.Ranges)
	case api.NodeJoin:
		return several(n.Kids, "", api.NodeJoin, api.NodeOr)
	case api.NodeOr:
		return several(n.Kids, "|", api.NodeOr)
	}
	return slices.Concat(within(n.Kids[0], api.NodeJoin, api.NodeOr, api.NodeRepeat), chars(often(n)))
}

// several: nodes, a text between them, those of some kinds in brackets.
func several(nodes []api.Node, between string, kinds ...int) []int {
	var out []int
	for i, n := range nodes {
		if i > 0 {
			out = append(out, chars(between)...)
		}
		out = append(out, within(n, kinds...)...)
	}
	return out
}

// within: a node, in brackets if it is of one of some kinds.
func within(n api.Node, kinds ...int) []int {
	if !slices.Contains(kinds, n.Kind) {
		return written(n)
	}
	return slices.Concat(chars("("), written(n), chars(")"))
}

// set: one character alone, or a class.
func set(l []api.Range) []int {
	if len(l) == 1 && l[0].Low == l[0].High {
		return quoted(l[0].Low)
	}
	out := chars("[")
	for _, r := range l {
		out = append(out, quoted(r.Low)...)
		if r.High != r.Low {
			out = append(out, '-')
			out = append(out, quoted(r.High)...)
		}
	}
	return append(out, ']')
}

func quoted(c int) []int {
	return token.Quote([]int{c})
}

// times: how often, at least and at most.
func times(n api.Node) [2]int {
	return [2]int{n.Low, n.High}
}

// often: what stands behind a node that is repeated.
func often(n api.Node) string {
	low, high := strconv.Itoa(n.Low), strconv.Itoa(n.High)
	switch told := times(n); {
	case told == [2]int{0, 1}:
		return "?"
	case told == [2]int{0, -1}:
		return "*"
	case told == [2]int{1, -1}:
		return "+"
	case told == [2]int{n.Low, n.Low}:
		return "{" + low + "}"
	case told == [2]int{n.Low, -1}:
		return "{" + low + ",}"
	}
	return "{" + low + "," + high + "}"
}

// chars: a text's characters.
func chars(text string) []int {
	var out []int
	for _, c := range text {
		out = append(out, int(c))
	}
	return out
}

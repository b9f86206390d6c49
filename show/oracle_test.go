package show_test

import (
	"slices"
	"strconv"
	"testing"

	"ductus/api"
	"ductus/sample"
	"ductus/show"
	"ductus/tree"
)

// Trees as a test tells them.
var (
	between = sample.Between
	set     = sample.Set
	char    = sample.Char
	join    = sample.Join
	either  = sample.Either
	repeat  = sample.Repeat

	empty = api.Node{Kind: 1}
	start = api.Node{Kind: 6}
	stop  = api.Node{Kind: 7}
)

// least: are ranges as layer 16 says?
func least(l []api.Range) bool {
	for i, r := range l {
		if r.Low < 0 || r.High > 0x10ffff || r.Low > r.High || i > 0 && r.Low < l[i-1].High+2 {
			return false
		}
	}
	return true
}

// mayBe: each of a kind's parts, by the chapter's words.
func mayBe(n api.Node) bool {
	noRanges, noKids, noTimes := len(n.Ranges) == 0, len(n.Kids) == 0, n.Low == 0 && n.High == 0
	switch n.Kind {
	case 1, 6, 7:
		return noRanges && noKids && noTimes
	case 2:
		return least(n.Ranges) && noKids && noTimes
	case 3, 4:
		return noRanges && len(n.Kids) > 1 && noTimes
	case 5:
		high := n.High == -1 || n.High >= n.Low && n.High <= 20
		return noRanges && len(n.Kids) == 1 && n.Low >= 0 && n.Low <= 20 && high
	}
	return false
}

// rightOf: by the chapter's words; level by level.
func rightOf(n api.Node) bool {
	nodes, ranges, deep := 0, 0, 0
	for level := []api.Node{n}; len(level) > 0; deep++ {
		var below []api.Node
		for _, node := range level {
			if !mayBe(node) {
				return false
			}
			nodes++
			ranges += len(node.Ranges)
			below = append(below, node.Kids...)
		}
		level = below
	}
	return nodes <= 400 && ranges <= 400 && deep <= 100
}

// patternOf: of a tree that may be shown, by the chapter's words.
func patternOf(n api.Node) []int {
	var out []int
	add := func(text string) { out = append(out, sample.Chars(text)...) }
	kid := func(n api.Node, inBrackets ...int) {
		if slices.Contains(inBrackets, n.Kind) {
			add("(")
			defer add(")")
		}
		out = append(out, patternOf(n)...)
	}
	switch n.Kind {
	case 1:
		add("()")
	case 6:
		add("^")
	case 7:
		add("$")
	case 2:
		out = setOf(n.Ranges)
	case 3:
		for _, k := range n.Kids {
			kid(k, 3, 4)
		}
	case 4:
		kid(n.Kids[0], 4)
		for _, k := range n.Kids[1:] {
			add("|")
			kid(k, 4)
		}
	case 5:
		kid(n.Kids[0], 3, 4, 5)
		add(oftenOf(strconv.Itoa(n.Low), strconv.Itoa(n.High)))
	}
	return out
}

// quotedOf: a character, quoted as layer 15 says.
func quotedOf(c int) []int {
	if slices.Contains(sample.Chars(`.()^$?*+{}[]-/\|`), c) {
		return []int{'\\', c}
	}
	return []int{c}
}

func setOf(l []api.Range) []int {
	if len(l) == 1 && l[0].Low == l[0].High {
		return quotedOf(l[0].Low)
	}
	out := []int{'['}
	for _, r := range l {
		out = append(out, quotedOf(r.Low)...)
		if r.Low != r.High {
			out = slices.Concat(out, []int{'-'}, quotedOf(r.High))
		}
	}
	return append(out, ']')
}

func oftenOf(low, high string) string {
	if short, ok := map[string]string{"0,1": "?", "0,-1": "*", "1,-1": "+"}[low+","+high]; ok {
		return short
	}
	switch high {
	case low:
		return "{" + low + "}"
	case "-1":
		return "{" + low + ",}"
	}
	return "{" + low + "," + high + "}"
}

// shownOf: Pattern, by the chapter's words.
func shownOf(n api.Node) ([]int, api.Errno) {
	if !rightOf(n) {
		return nil, api.ErrArg
	}
	if l := patternOf(n); len(l) <= 200 {
		return l, api.OK
	}
	return nil, api.ErrSize
}

// neatOf: Neat, by the chapter's words, of what layer 16 parses.
func neatOf(l []int, flags int) ([]int, int, api.Errno) {
	n, at, e := tree.Parse(l, flags)
	if e != api.OK {
		return nil, at, e
	}
	out, e := shownOf(n)
	return out, 0, e
}

// groupsOf: how many brackets are within one another where a tree is shown, at most.
func groupsOf(n api.Node) int {
	most, open := 0, 0
	l := patternOf(n)
	for i := 0; i < len(l); i++ {
		switch l[i] {
		case '\\':
			i++
		case '[':
			for ; l[i] != ']'; i++ {
				if l[i] == '\\' {
					i++
				}
			}
		case '(':
			open++
			most = max(most, open)
		case ')':
			open--
		}
	}
	return most
}

// checkTree: Right and Pattern of a tree are these, and leave it as it was.
func checkTree(t *testing.T, n api.Node, want []int, e api.Errno) {
	t.Helper()
	text := sample.ShowTree(n)
	if got := show.Right(n); got != (e != api.ErrArg) {
		t.Errorf("Right of %s: %t", sample.Head(text), got)
	}
	got, told := show.Pattern(n)
	if told != e || !slices.Equal(got, want) {
		t.Errorf("Pattern of %s: %s, error %d, not %s, error %d", sample.Head(text), sample.Quoted(got), told, sample.Quoted(want), e)
	}
	if now := sample.ShowTree(n); now != text {
		t.Errorf("%s is changed to %s", sample.Head(text), sample.Head(now))
	}
}

// check: a tree's pattern, told in full; the chapter's words say the same.
func check(t *testing.T, n api.Node, want string) {
	t.Helper()
	checkTree(t, n, sample.Chars(want), api.OK)
	checkOracle(t, n)
}

// checkOracle: of a tree all is as the chapter's words say.
func checkOracle(t *testing.T, n api.Node) {
	t.Helper()
	want, e := shownOf(n)
	checkTree(t, n, want, e)
}

// checkArg: a tree may not be shown; the chapter's words say the same.
func checkArg(t *testing.T, n api.Node) {
	t.Helper()
	checkTree(t, n, nil, api.ErrArg)
	if rightOf(n) {
		t.Errorf("by the chapter's words %s may be shown", sample.Head(sample.ShowTree(n)))
	}
}

// checkRight: a tree may be shown, though its pattern may be too long.
func checkRight(t *testing.T, n api.Node) {
	t.Helper()
	checkOracle(t, n)
	if !rightOf(n) {
		t.Errorf("by the chapter's words %s may not be shown", sample.Head(sample.ShowTree(n)))
	}
}

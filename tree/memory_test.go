package tree_test

import (
	"slices"
	"testing"

	"ductus/api"
	"ductus/sample"
	"ductus/tree"
)

// Patterns, right and wrong, with all that may be in one.
var some = []string{"", "a", ".", "a|b|", "(ab)*", "[^a-z\\d]", "((a|b)c{2,3}?|[<])*", "aaa", "[aa][aa]", "()()", "^.$", "[]", "a)", "*", "(", "[", "a{20}b{20}", "(a{20}){20}", "[\\W\\S]+"}

// someSets: lists of ranges, least and not.
var someSets = [][]api.Range{nil, between(1, 2), between(5, 9, 1, 2, 3, 3, 8, 12, 20, 19, -5, -1, api.Top, api.Top+9), between('a', 'z'), between('(', '('), between(0, api.Top), apart(500, 0x30), apart(501, 0x30)}

// calls: those that answer ranges of ranges.
func calls() []func(l []api.Range) []api.Range {
	out := []func(l []api.Range) []api.Range{tree.Set, tree.Turn}
	for flags := range 8 {
		out = append(out, func(l []api.Range) []api.Range { return tree.Close(l, flags) })
	}
	return out
}

// fill: all of a list, and of the room behind it.
func fill[T any](l []T, with T) {
	l = l[:cap(l)]
	for i := range l {
		l[i] = with
	}
}

// P16.1, by the rules that hold everywhere: ranges that are handed in aren't changed nor kept, their spare room neither; what is answered is new.
func TestNothingIsChanged(t *testing.T) {
	spare := between(0, 0, 77, 77, 'b', 'c', 2, 1)
	for i, call := range calls() {
		for _, l := range someSets {
			whole := slices.Concat(l, spare)
			was := slices.Clone(whole)
			want := slices.Clone(call(slices.Clone(l)))
			got, other := call(whole[:len(l)]), call(whole[:len(l)])
			fill(other, api.Range{Low: 66, High: 99})
			if !slices.Equal(whole, was) {
				t.Errorf("call %d of %s: changes it, or answers it", i, sample.Head(sample.ShowRanges(l)))
			}
			fill(whole, api.Range{Low: 3, High: 4})
			call(spare)
			checkRanges(t, "later, of "+sample.ShowRanges(l), got, want)
			checkRanges(t, "again, of "+sample.ShowRanges(l), call(slices.Clone(l)), want)
		}
	}
}

// P16.1, by the rules: what stands behind ranges in their room isn't of them, nor what stands ahead of them.
func TestSpareRoomIsNotRead(t *testing.T) {
	whole := between(5, 9, 1, 2, 'a', 'd', 3, 3, '<', '<', 8, 12, 20, 19, -5, -1)
	for i, call := range calls() {
		for from := range whole {
			for to := from; to <= len(whole); to++ {
				if got, want := call(whole[from:to]), call(slices.Clone(whole[from:to])); !slices.Equal(got, want) {
					t.Errorf("call %d of %s: %s, not %s", i, sample.ShowRanges(whole[from:to]), sample.ShowRanges(got), sample.ShowRanges(want))
				}
			}
		}
	}
	for from := range whole {
		for c := -6; c < 130; c++ {
			checkHas(t, whole[from:from+1], c, whole[from].Low <= c && c <= whole[from].High)
		}
	}
	l := sample.Chars(`(a[b-d\S]|.){2}?)*]|`)
	for from := range l {
		for to := from; to <= len(l); to++ {
			checkOracle(t, l[from:to], to%8)
		}
	}
}

// parsed: a tree of a pattern alone.
func parsed(l []int, flags int) api.Node {
	n, _, _ := tree.Parse(l, flags)
	return n
}

// P16.1, by the rules: a pattern that is handed in isn't changed nor kept, its spare room neither; trees are new.
func TestParseChangesNothing(t *testing.T) {
	for _, text := range some {
		l := sample.Chars(text)
		whole := slices.Concat(l, sample.Chars(")*|?]"))
		was := slices.Clone(whole)
		want := sample.ShowTree(parsed(slices.Clone(l), 1))
		got := parsed(whole[:len(l)], 1)
		if !slices.Equal(whole, was) {
			t.Errorf("Parse of %q changes it", text)
		}
		fill(whole, '|')
		other := parsed(l, 1)
		for _, n := range sample.Nodes(&other) {
			fill(n.Ranges, api.Range{Low: 66, High: 99})
		}
		if sample.ShowTree(got) != want || sample.ShowTree(parsed(l, 1)) != want {
			t.Errorf("Parse of %q, later: %s, not %s", text, sample.ShowTree(got), want)
		}
	}
}

// P16.1, by the rules: no two lists of one tree share any room.
func TestNoTwoListsShare(t *testing.T) {
	for _, text := range some {
		whole := parsed(sample.Chars(text), 3)
		for i := range sample.Nodes(&whole) {
			n := parsed(sample.Chars(text), 3)
			all := sample.Nodes(&n)
			want := sample.Copied(n)
			same := sample.Nodes(&want)
			fill(all[i].Ranges, api.Range{Low: 66, High: 99})
			fill(same[i].Ranges, api.Range{Low: 66, High: 99})
			fill(all[i].Kids[len(all[i].Kids):], api.Node{Kind: 77})
			if sample.ShowTree(n) != sample.ShowTree(want) {
				t.Errorf("%q: its node %d shares a list with another one", text, i)
			}
		}
	}
}

// P16.1, by the rules: trees and ranges that Size, Same and Has look at stay as they were.
func TestTreesStay(t *testing.T) {
	for n := range mixedTrees(300) {
		was := sample.Copied(n)
		tree.Size(n)
		tree.Same(n, was)
		tree.Same(was, n)
		for _, node := range sample.Nodes(&n) {
			tree.Has(node.Ranges, 5)
		}
		if sample.ShowTree(n) != sample.ShowTree(was) {
			t.Errorf("%s is %s", sample.ShowTree(was), sample.ShowTree(n))
		}
	}
	l := between(5, 9, 1, 2, 3, 3)
	tree.Has(l, 4)
	checkRanges(t, "behind Has", l, between(5, 9, 1, 2, 3, 3))
}

// P16.1, by the rules: a call hangs on its arguments alone, whatever was called ahead of it, and however often it is called.
func TestNothingIsKept(t *testing.T) {
	for _, first := range some {
		for i, second := range some {
			checkOracle(t, sample.Chars(first), 7-i%8)
			checkOracle(t, sample.Chars(second), i%8)
			checkOracle(t, sample.Chars(second), 9)
			checkOracle(t, sample.Chars(second), i%8)
		}
	}
	l := sample.Chars("(a)")
	checkList(t, l, 0, char('a'), 0, api.OK)
	l[1] = '|'
	checkList(t, l, 0, either(empty, empty), 0, api.OK)
	l[0] = '*'
	checkList(t, l, 0, api.Node{}, 0, api.ErrSign)
	l[0], l[1] = '[', ']'
	checkList(t, l, 0, api.Node{}, 2, api.ErrSign)
}

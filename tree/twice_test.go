package tree_test

import (
	"iter"
	"math"
	"slices"
	"testing"

	"ductus/api"
	"ductus/sample"
	"ductus/tree"
)

// mixedSets: mixed lists of ranges, by a rule, always the same ones: of small numbers, of characters that flags change, of what is at the ends and beyond them.
func mixedSets(many, most int) iter.Seq[[]api.Range] {
	numbers := []int{math.MinInt, math.MinInt + 1, -1 << 32, -2, -1, 0, 0, 1, 2, 3, 4, 5, 6, 7, 8, 0xd7, 0xf7, 0x2000, 0xd800, 0x10fffd, 0x10fffe, api.Top, api.Top, api.Top + 1, 1<<32 + 'a', math.MaxInt - 1, math.MaxInt}
	for i := 0; i < len(changed); i += 3 {
		numbers = append(numbers, changed[i])
	}
	return func(yield func([]api.Range) bool) {
		for l := range sample.MixedOf(numbers, many, 2*most) {
			var out []api.Range
			for i := 0; i+1 < len(l); i += 2 {
				low, high := l[i], l[i+1]
				if i%6 == 0 && low < 0x4000 && low >= 0 {
					// Else most would be nearly all, or nothing.
					high = low + high&7
				}
				out = append(out, api.Range{Low: low, High: high})
			}
			if !yield(out) {
				return
			}
		}
	}
}

// checkTwice: a set made once more, turned round twice, closed twice is as it was.
func checkTwice(t *testing.T, l []api.Range) {
	t.Helper()
	set := tree.Set(l)
	told := sample.ShowRanges(l)
	checkRanges(t, "Set of Set of "+told, tree.Set(set), set)
	checkRanges(t, "Turn of Turn of "+told, tree.Turn(tree.Turn(l)), set)
	checkRanges(t, "Turn of Set of "+told, tree.Turn(set), tree.Turn(l))
	for flags := range 8 {
		closed := tree.Close(l, flags)
		checkRanges(t, "Close of Close of "+told, tree.Close(closed, flags), closed)
		checkRanges(t, "Close of Set of "+told, tree.Close(set, flags), closed)
		checkRanges(t, "Set of Close of "+told, tree.Set(closed), closed)
		for _, c := range append(edgesOf(l), edgesOf(closed)...) {
			if tree.Has(set, c) && !tree.Has(closed, c) {
				t.Errorf("Close by %d of %s hasn't %x", flags, told, c)
			}
		}
		// What is turned out of a closed set is closed, too.
		checkRanges(t, "Close of Turn of Close of "+told, tree.Close(tree.Turn(closed), flags), tree.Turn(closed))
	}
}

// checkLeast: ranges rise, with a character between two, from 0 to Top.
func checkLeast(t *testing.T, l []api.Range) {
	t.Helper()
	last := -2
	for _, r := range l {
		if r.Low < last+2 || r.Low < 0 || r.Low > r.High || r.High > api.Top {
			t.Errorf("%s aren't least", sample.ShowRanges(l))
		}
		last = r.High
	}
}

// P16.2: over many mixed lists, and lists of one, of none, of all.
func TestTwice(t *testing.T) {
	for _, l := range [][]api.Range{nil, between(0, api.Top), between(0, 0), between(api.Top, api.Top), between('a', 'z'), between('(', '('), digit, space, words, between(5, 9, 1, 2, 3, 3), apart(400, 0x30), apart(400, 0x390), apart(499, 0x4001)} {
		checkTwice(t, l)
	}
	for l := range mixedSets(400, 8) {
		checkTwice(t, l)
	}
	for l := range mixedSets(40, 60) {
		checkTwice(t, l)
	}
}

// P16.2: each character, at all edges and beside them, is in one of both, a set and it turned round; none that is beyond is in either.
func TestOneOfBoth(t *testing.T) {
	for l := range mixedSets(600, 9) {
		set, turned := tree.Set(l), tree.Turn(l)
		checkLeast(t, set)
		checkLeast(t, turned)
		for _, c := range beside(l) {
			in, out := tree.Has(set, c), tree.Has(turned, c)
			if is := 0 <= c && c <= api.Top; in != (is && tree.Has(l, c)) || out != (is && !in) {
				t.Errorf("%x is in Set of %s: %t, in it turned round: %t", c, sample.ShowRanges(l), in, out)
			}
		}
	}
}

// beside: all edges of ranges, and what is beside them; and the ends.
func beside(l []api.Range) []int {
	out := []int{math.MinInt, math.MinInt + 1, -2, -1, 0, 1, api.Top - 1, api.Top, api.Top + 1, math.MaxInt - 1, math.MaxInt}
	for _, r := range l {
		out = append(out, r.Low-1, r.Low, r.Low+1, r.High-1, r.High, r.High+1)
	}
	return out
}

// P16.2: a character is in a set of two lists just if it is in one of them; so it is behind flags.
func TestBothLists(t *testing.T) {
	var ahead []api.Range
	for l := range mixedSets(400, 6) {
		both := slices.Concat(ahead, l)
		for flags := range 4 {
			first, second, all := tree.Close(ahead, flags), tree.Close(l, flags), tree.Close(both, flags)
			checkLeast(t, all)
			for _, c := range append(beside(both), changed...) {
				if tree.Has(all, c) != (tree.Has(first, c) || tree.Has(second, c)) {
					t.Errorf("%x in both of %s and %s, by %d: %t", c, sample.ShowRanges(ahead), sample.ShowRanges(l), flags, tree.Has(all, c))
				}
			}
		}
		ahead = l
	}
}

// P16.1: mixed lists, by the chapter's words.
func TestMixedSets(t *testing.T) {
	for l := range mixedSets(400, 10) {
		edges := edgesOf(l)
		checkRanges(t, "Set of "+sample.ShowRanges(l), tree.Set(l), rangesOf(inOf(l), edges))
		checkRanges(t, "Turn of "+sample.ShowRanges(l), tree.Turn(l), rangesOf(turnOf(inOf(l)), edges))
		checkCloses(t, l)
	}
}

package show_test

import (
	"slices"
	"testing"

	"ductus/api"
	"ductus/sample"
	"ductus/show"
)

// some: patterns, right and wrong, with all that may be in one.
var some = []string{"", "a", ".", "a|b|", "(ab)*", "[^a-z\\d]", "((a|b)c{2,3}?|[<])*", "aaa", "()()", "^.$", "[]", "a)", "*", "(", "[", "a{20}b{20}", "(a{20}){20}", "\\d", "a", "b?"}

// roomy: a tree with room behind each list, that is filled with what is wrong there; and all of its lists, with that room.
func roomy(n api.Node) (api.Node, [][]api.Range, [][]api.Node) {
	ranges := [][]api.Range{append(slices.Clone(n.Ranges), between(9, 3, -5, 5)...)}
	kids := [][]api.Node{nil}
	for _, kid := range n.Kids {
		own, r, k := roomy(kid)
		kids[0] = append(kids[0], own)
		ranges, kids = append(ranges, r...), append(kids, k...)
	}
	kids[0] = append(kids[0], api.Node{}, api.Node{Kind: 99})
	return api.Node{Kind: n.Kind, Low: n.Low, High: n.High, Ranges: ranges[0][:len(n.Ranges)], Kids: kids[0][:len(n.Kids)]}, ranges, kids
}

// written: all of a tree's lists, with the room behind them, as a text.
func written(ranges [][]api.Range, kids [][]api.Node) string {
	out := ""
	for _, l := range ranges {
		out += sample.ShowRanges(l)
	}
	for _, l := range kids {
		out += sample.ShowTree(api.Node{Kids: l})
	}
	return out
}

// P17.1, by the rules that hold everywhere: a tree that is handed in isn't changed nor kept, the room behind its lists is neither read nor changed; patterns are new.
func TestTreesStay(t *testing.T) {
	for n := range mixed(400, 30) {
		whole, ranges, kids := roomy(n)
		was := written(ranges, kids)
		want, e := shownOf(n)
		got, told := show.Pattern(whole)
		other, _ := show.Pattern(whole)
		if told != e || !slices.Equal(got, want) || show.Right(whole) != (e != api.ErrArg) {
			t.Errorf("Pattern of %s: %s, error %d, not %s", sample.ShowTree(n), sample.Quoted(got), told, sample.Quoted(want))
		}
		if written(ranges, kids) != was {
			t.Errorf("%s is changed, or the room behind it", sample.ShowTree(n))
		}
		fill(other)
		for _, l := range ranges {
			for i := range l {
				l[i] = api.Range{Low: 77, High: 88}
			}
		}
		if again, e := show.Pattern(n); e != told || !slices.Equal(again, want) || !slices.Equal(got, want) {
			t.Errorf("Pattern of %s, later: %s, and %s, not %s", sample.ShowTree(n), sample.Quoted(got), sample.Quoted(again), sample.Quoted(want))
		}
	}
}

// fill: all of a list, and of the room behind it.
func fill(l []int) {
	l = l[:cap(l)]
	for i := range l {
		l[i] = 66
	}
}

// P17.1, by the rules: of a tree that stands in several places each is as it is, and stays so.
func TestSharedKids(t *testing.T) {
	a := sample.Char('a')
	both := []api.Node{a, empty}
	n := join(api.Node{Kind: 3, Kids: both}, api.Node{Kind: 4, Kids: both}, api.Node{Kind: 5, High: -1, Kids: both[:1]}, api.Node{Kind: 3, Kids: both})
	check(t, n, "(a())(a|())a*(a())")
	both[0] = char('b')
	check(t, n, "(b())(b|())b*(b())")
	both[1] = api.Node{}
	checkArg(t, n)
}

// P17.1, by the rules: a pattern that is handed in isn't changed nor kept, its spare room neither; what is neat is new.
func TestNeatChangesNothing(t *testing.T) {
	for _, text := range some {
		for flags := range 8 {
			l := sample.Chars(text)
			want, _, _ := neatOf(l, flags)
			fault := sample.Fault(l, want, '|', func(l []int) []int {
				out, _, _ := show.Neat(l, flags)
				return out
			})
			if fault != "" {
				t.Errorf("Neat of %q by %d %s", text, flags, fault)
			}
		}
	}
}

// P17.1, by the rules: what stands behind a pattern in its room isn't of it, nor what stands ahead of it.
func TestSpareRoomIsNotRead(t *testing.T) {
	l := sample.Chars(`(a[b-d\S]|.){2}?)*]|`)
	for from := range l {
		for to := from; to <= len(l); to++ {
			checkWords(t, l[from:to], to%8)
		}
	}
}

// P17.1, by the rules: a call hangs on its arguments alone, whatever was called ahead of it, and however often it is called.
func TestNothingIsKept(t *testing.T) {
	for i, first := range some {
		for k, second := range some {
			checkWords(t, sample.Chars(first), i%8)
			checkWords(t, sample.Chars(second), k%8)
			checkWords(t, sample.Chars(second), 9)
			checkWords(t, sample.Chars(second), k%8)
		}
	}
	checkArg(t, join(char('a')))
	check(t, join(char('a'), char('b')), "ab")
	checkRight(t, wide(3, 400, empty))
	checkArg(t, wide(3, 401, empty))
	checkRight(t, wide(3, 400, empty))
	checkRight(t, within(empty, 5, 99, true))
	checkRight(t, within(empty, 5, 99, true))
	check(t, char('a'), "a")
}

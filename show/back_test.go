package show_test

import (
	"strings"
	"testing"

	"ductus/api"
	"ductus/sample"
	"ductus/show"
	"ductus/tree"
)

// again: what a tree is shown as is parsed, without flags, as it was, unless its groups are too deep, or its size is too great; and is shown so again.
func again(t *testing.T, n api.Node, l []int) api.Errno {
	t.Helper()
	want, e := n, api.OK
	switch {
	case groupsOf(n) > 20:
		e = api.ErrDeep
	case tree.Size(n) > 400:
		e = api.ErrSize
	}
	if e != api.OK {
		want = api.Node{}
	}
	back, at, told := tree.Parse(l, 0)
	if told != e || sample.ShowTree(back) != sample.ShowTree(want) || at != 0 && e != api.ErrDeep {
		t.Errorf("%s, shown as %s, is parsed as %s, %d, error %d, not error %d", sample.Head(sample.ShowTree(n)), sample.Quoted(l), sample.Head(sample.ShowTree(back)), at, told, e)
	}
	if e == api.OK {
		if next, place, told := show.Neat(l, 0); sample.Quoted(next) != sample.Quoted(l) || place != 0 || told != api.OK {
			t.Errorf("%s is made neat as %s, %d, error %d", sample.Quoted(l), sample.Quoted(next), place, told)
		}
	}
	return e
}

// checkBack: a tree that is shown comes back; what its pattern is parsed with.
func checkBack(t *testing.T, n api.Node) api.Errno {
	t.Helper()
	l, e := show.Pattern(n)
	if e != api.OK {
		t.Fatalf("%s isn't shown: error %d", sample.Head(sample.ShowTree(n)), e)
	}
	return again(t, n, l)
}

// checkComes: without an error.
func checkComes(t *testing.T, n api.Node) {
	t.Helper()
	if e := checkBack(t, n); e != api.OK {
		t.Errorf("%s is shown as a pattern with error %d", sample.Head(sample.ShowTree(n)), e)
	}
}

// P17.2: every kind within every other one, and that within every one.
func TestKindsComeBack(t *testing.T) {
	a := char('a')
	leaves := []api.Node{empty, start, stop, a, char('*'), char('\\'), char('{'), set(), set('a', 'b'), set('-', '-', ']', '^'), set(0, api.Top)}
	around := func(l []api.Node) []api.Node {
		var out []api.Node
		for _, n := range l {
			out = append(out, join(n, n), join(a, n, a), either(n, n), either(a, n, a), repeat(0, 1, n), repeat(0, -1, n), repeat(1, -1, n), repeat(2, 2, n), repeat(2, -1, n), repeat(0, 2, n), repeat(1, 1, n), repeat(0, 0, n))
		}
		return out
	}
	one := around(leaves)
	two := around(one)
	for _, l := range [][]api.Node{leaves, one, two} {
		for _, n := range l {
			checkComes(t, n)
		}
	}
	for _, n := range around(two) {
		if tree.Size(n) <= 400 {
			checkComes(t, n)
		}
	}
	for _, n := range one {
		for _, other := range one {
			checkComes(t, join(n, other))
			checkComes(t, either(n, other))
		}
	}
}

// P17.2: sets of each sign, at each end of a range, with others beside it.
func TestSetsComeBack(t *testing.T) {
	signs := sample.Chars(`.()^$?*+{}[]-/\|dntwDWS09,` + "\n\t\x00\U0010ffff")
	for _, low := range signs {
		checkComes(t, char(low))
		checkComes(t, repeat(2, 3, char(low)))
		for _, high := range signs {
			checkComes(t, join(char(low), char(high)))
			if low < high {
				checkComes(t, set(low, high))
			}
			if low+1 < high {
				checkComes(t, set(low, low, high, high))
			}
			for _, x := range signs {
				if low < high && high+1 < x {
					checkComes(t, set(low, high, x, x))
					checkComes(t, set(low, high, x, api.Top))
				}
			}
		}
	}
	for c := 0; c <= api.Top; c += 1 + c/0x800 {
		checkComes(t, char(c))
		if c+2 < api.Top {
			checkComes(t, set(c, c+2))
		}
	}
}

// P17.2: each repeat.
func TestRepeatsComeBack(t *testing.T) {
	for low := range 21 {
		for high := low - 1; high <= 20; high++ {
			n := repeat(low, high, char('a'))
			if high < low {
				n.High = -1
			}
			checkComes(t, n)
			checkComes(t, join(n, char('?')))
			checkComes(t, either(n, n))
			checkComes(t, repeat(0, 1, n))
			checkBack(t, repeat(low, -1, n))
		}
	}
}

// P17.2: just 20 groups, and 21, by joins, ors, repeats and what is empty.
func TestDeepOnes(t *testing.T) {
	ab := join(char('a'), char('b'))
	checkDeep := func(n api.Node, deep bool) {
		t.Helper()
		want := api.OK
		if deep {
			want = api.ErrDeep
		}
		if e := checkBack(t, n); e != want {
			t.Errorf("%s comes back with error %d", sample.ShowTree(n), e)
		}
	}
	for many := 18; many <= 24; many++ {
		checkDeep(within(char('a'), 5, many, true), many > 21)
		checkDeep(within(ab, 5, many, true), many > 20)
		checkDeep(within(empty, 5, many, true), many > 20)
		n := ab
		for range many {
			n = join(char('c'), n)
		}
		checkDeep(n, many > 20)
		n = either(char('a'), char('b'))
		for range many {
			n = either(n, char('c'))
		}
		checkDeep(n, many > 20)
		n = empty
		for range many {
			n = join(n, char('c'))
		}
		checkDeep(n, many > 20)
		// Joins of an or take no brackets of their own.
		n = char('a')
		for range many {
			n = either(join(n, char('b')), start)
		}
		checkDeep(n, many > 21)
	}
	// A group that is deep doesn't make what stands behind it so.
	checkDeep(join(within(char('a'), 5, 21, true), within(ab, 5, 20, true)), false)
	checkDeep(join(within(char('a'), 5, 21, true), within(ab, 5, 21, true)), true)
	if l, _ := show.Pattern(within(ab, 5, 21, true)); len(l) > 0 {
		if _, at, e := tree.Parse(l, 0); at != 20 || e != api.ErrDeep {
			t.Errorf("21 groups: %d, error %d", at, e)
		}
	}
}

// P17.2: just the size of 400, and 401.
func TestGreatOnes(t *testing.T) {
	a := char('a')
	many := func(often int) api.Node {
		out := join()
		for range often {
			out.Kids = append(out.Kids, a)
		}
		return out
	}
	checkGreat := func(n api.Node, size int) {
		t.Helper()
		want := api.OK
		if size > 400 {
			want = api.ErrSize
		}
		if e := checkBack(t, n); e != want || tree.Size(n) != size {
			t.Errorf("%s, of size %d, comes back with error %d", sample.Head(sample.ShowTree(n)), tree.Size(n), e)
		}
	}
	checkGreat(repeat(2, 2, many(195)), 393)
	checkGreat(repeat(3, 3, many(132)), 400)
	checkGreat(repeat(0, 3, many(132)), 400)
	checkGreat(repeat(2, -1, many(132)), 400)
	checkGreat(repeat(3, -1, many(132)), 533)
	checkGreat(repeat(3, 3, many(133)), 403)
	checkGreat(join(repeat(3, 3, many(132)), a), 402)
	checkGreat(repeat(20, 20, repeat(18, 18, a)), 381)
	checkGreat(repeat(20, 20, repeat(19, 19, a)), 401)
	checkGreat(repeat(19, 19, repeat(20, 20, a)), 400)
	checkGreat(repeat(20, 20, repeat(20, 20, a)), 421)
	checkGreat(repeat(20, -1, repeat(20, -1, a)), 463)
	checkGreat(repeat(20, 20, repeat(20, 20, repeat(20, 20, repeat(20, 20, repeat(20, 20, a))))), 1000000)
}

// P17.2: both at once: groups are told first.
func TestDeepAndGreat(t *testing.T) {
	n := repeat(20, 20, repeat(20, 20, char('a')))
	for range 21 {
		n = join(char('b'), n)
	}
	if e := checkBack(t, n); e != api.ErrDeep {
		t.Errorf("error %d", e)
	}
}

// P17.2: many mixed trees; some of their patterns are too great, and some too deep.
func TestMixedComeBack(t *testing.T) {
	met := map[api.Errno]int{}
	for _, most := range []int{5, 12, 30, 90} {
		for n := range mixed(2000, most) {
			for _, whole := range []api.Node{n, within(n, 3, 17, true)} {
				if l, e := show.Pattern(whole); e == api.OK {
					met[again(t, whole, l)]++
				}
			}
		}
	}
	if met[api.OK] < 5000 || met[api.ErrSize] < 500 || met[api.ErrDeep] < 500 {
		t.Errorf("so many come back with each error: %v", met)
	}
}

// P17.2: what is empty is shown in brackets, so it may come to stand in one group more than was read: this alone keeps what is neat from being made neat once more.
func TestNeatInTheDeepestGroup(t *testing.T) {
	text := strings.Repeat("a(", 20) + "|" + strings.Repeat(")", 20)
	l, _, e := show.Neat(sample.Chars(text), 0)
	if want := strings.Repeat("a(", 20) + "()|()" + strings.Repeat(")", 20); sample.Quoted(l) != sample.Quoted(sample.Chars(want)) || e != api.OK {
		t.Errorf("%s, error %d", sample.Quoted(l), e)
	}
	checkList(t, l, 0, nil, 40, api.ErrDeep)
}

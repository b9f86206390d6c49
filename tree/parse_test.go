package tree_test

import (
	"math"
	"slices"
	"strings"
	"testing"

	"ductus/api"
	"ductus/sample"
	"ductus/tree"
)

// checkList: Parse of a pattern; beside no error the place is 0, and beside one there is no tree.
func checkList(t *testing.T, l []int, flags int, want api.Node, at int, e api.Errno) {
	t.Helper()
	n, place, told := tree.Parse(l, flags)
	if place != at || told != e || sample.ShowTree(n) != sample.ShowTree(want) {
		t.Errorf("Parse of %s by %d: %s, %d, error %d; not %s, %d, error %d", sample.Quoted(l), flags, sample.Head(sample.ShowTree(n)), place, told, sample.Head(sample.ShowTree(want)), at, e)
	}
}

// check: a pattern's tree, which FlagAll doesn't change.
func check(t *testing.T, pattern string, want api.Node) {
	t.Helper()
	checkList(t, sample.Chars(pattern), 0, want, 0, api.OK)
	checkList(t, sample.Chars(pattern), 4, want, 0, api.OK)
}

// checkOracle: Parse of a pattern is as the chapter's words say.
func checkOracle(t *testing.T, l []int, flags int) {
	t.Helper()
	want, at, e := parseOf(l, flags)
	checkList(t, l, flags, want, at, e)
	if t.Failed() {
		t.FailNow()
	}
}

// P16.1: the chapter's examples, and no pattern.
func TestExamples(t *testing.T) {
	check(t, "a|b", either(char('a'), char('b')))
	check(t, "(ab)*", repeat(0, -1, join(char('a'), char('b'))))
	check(t, "", empty)
	checkList(t, nil, 0, empty, 0, api.OK)
	checkList(t, []int{}, 7, empty, 0, api.OK)
}

// P16.1: the kinds have the numbers that the chapter tells.
func TestKinds(t *testing.T) {
	for n, k := range []int{api.NodeNone, api.NodeEmpty, api.NodeSet, api.NodeJoin, api.NodeOr, api.NodeRepeat, api.NodeStart, api.NodeStop} {
		if k != n {
			t.Errorf("a kind is %d, not %d", k, n)
		}
	}
	if api.FlagFold != 1 || api.FlagMirror != 2 || api.FlagAll != 4 || api.MaxNodes != 400 || api.MaxDepth != 20 || api.Top != 0x10ffff {
		t.Error("flags, or limits")
	}
}

// P16.1: one token of each kind.
func TestOneToken(t *testing.T) {
	check(t, "a", char('a'))
	check(t, "]", char(']'))
	check(t, "\u05d0", char(0x5d0))
	check(t, `\.`, char('.'))
	check(t, `\n`, char(0xa))
	check(t, `\t`, char(0x9))
	check(t, `\\`, char('\\'))
	check(t, "^", start)
	check(t, "$", stop)
	check(t, "()", empty)
	check(t, "|", either(empty, empty))
	check(t, "[a]", char('a'))
	check(t, "[]", set())
	check(t, "[^]", set(0, api.Top))
	check(t, "[b-d]", set('b', 'd'))
	check(t, "a?", repeat(0, 1, char('a')))
	check(t, "a??", repeat(0, 1, char('a')))
	check(t, `\d`, set('0', '9'))
	checkList(t, sample.Chars("."), 0, set(0, 9, 0xb, api.Top), 0, api.OK)
	checkList(t, sample.Chars("."), 4, set(0, api.Top), 0, api.OK)
}

// P16.1: numbers that are no characters are in no set.
func TestNoCharacters(t *testing.T) {
	for _, c := range []int{-1, -'a', math.MinInt, api.Top + 1, 1<<32 + 'a', 1<<32 + '(', 1<<32 + '*', -1<<32 + '|', 1 << 62, math.MaxInt} {
		for flags := range 8 {
			checkList(t, []int{c}, flags, set(), 0, api.OK)
			checkList(t, []int{'1', c, '*'}, flags, join(char('1'), repeat(0, -1, set())), 0, api.OK)
			checkList(t, []int{'[', c, ']'}, flags, set(), 0, api.OK)
			checkList(t, []int{'[', '^', c, '1', ']'}, flags, set(0, '0', '2', api.Top), 0, api.OK)
			checkList(t, []int{'[', '1', c, '3', ']'}, flags, set('1', '1', '3', '3'), 0, api.OK)
		}
	}
	for _, c := range []int{0, 0xd800, 0xdfff, 0xfffd, api.Top} {
		checkList(t, []int{c}, 7, char(c), 0, api.OK)
	}
	checkList(t, []int{'[', -5, '-', '3', ']'}, 0, set(0, '3'), 0, api.OK)
	checkList(t, []int{'[', math.MinInt, '-', math.MaxInt, ']'}, 0, set(0, api.Top), 0, api.OK)
	checkList(t, []int{'[', '^', 5, '-', math.MaxInt, ']'}, 0, set(0, 4), 0, api.OK)
	checkList(t, []int{'[', api.Top + 1, '-', math.MaxInt, math.MinInt, '-', -1, ']'}, 3, set(), 0, api.OK)
}

// P16.1: joins of none, one, two, three and many, outside of brackets, within, beside them and in an or.
func TestJoins(t *testing.T) {
	a, b, c := char('a'), char('b'), char('c')
	check(t, "ab", join(a, b))
	check(t, "abc", join(a, b, c))
	check(t, "(a)", a)
	check(t, "(ab)", join(a, b))
	check(t, "(abc)", join(a, b, c))
	check(t, "(ab)c", join(join(a, b), c))
	check(t, "a(bc)", join(a, join(b, c)))
	check(t, "a(b)c", join(a, b, c))
	check(t, "(a)(b)(c)", join(a, b, c))
	check(t, "a()", join(a, empty))
	check(t, "()a", join(empty, a))
	check(t, "()()", join(empty, empty))
	check(t, "(()())", join(empty, empty))
	check(t, "a(()b)", join(a, join(empty, b)))
	check(t, "^a$", join(start, a, stop))
	check(t, "^^", join(start, start))
	check(t, "$^", join(stop, start))
	check(t, "a^b$c", join(a, start, b, stop, c))
	check(t, "ab|bc", either(join(a, b), join(b, c)))
	check(t, "[a]b[c]", join(a, b, c))
	check(t, `a\d[bc]`, join(a, set('0', '9'), set('b', 'c')))
	check(t, strings.Repeat("a", 200), join(slices.Repeat([]api.Node{a}, 200)...))
	check(t, strings.Repeat("()", 100), join(slices.Repeat([]api.Node{empty}, 100)...))
}

// P16.1: ors of two, three and many, outside of brackets and within; what is empty ahead of the first or-sign, between two, and behind the last one.
func TestOrs(t *testing.T) {
	a, b, c := char('a'), char('b'), char('c')
	check(t, "a|b|c", either(a, b, c))
	check(t, "|a", either(empty, a))
	check(t, "a|", either(a, empty))
	check(t, "a||b", either(a, empty, b))
	check(t, "|a|", either(empty, a, empty))
	check(t, "||", either(empty, empty, empty))
	check(t, "a|b|", either(a, b, empty))
	check(t, "(|)", either(empty, empty))
	check(t, "(a|b)", either(a, b))
	check(t, "(a|b|c)", either(a, b, c))
	check(t, "(|a|)", either(empty, a, empty))
	check(t, "(a|b)c", join(either(a, b), c))
	check(t, "a(b|c)", join(a, either(b, c)))
	check(t, "a(|b)c", join(a, either(empty, b), c))
	check(t, "a|(b|c)", either(a, either(b, c)))
	check(t, "(a|b)|c", either(either(a, b), c))
	check(t, "(a|b)|(b|c)", either(either(a, b), either(b, c)))
	check(t, "a|()|b", either(a, empty, b))
	check(t, "()|", either(empty, empty))
	check(t, "a|a", either(a, a))
	check(t, "^|$", either(start, stop))
	check(t, "(^|a)$", join(either(start, a), stop))
	check(t, "[a|b]", set('a', 'b', '|', '|'))
	check(t, `a\|b`, join(a, char('|'), b))
	check(t, strings.Repeat("|", 200), either(slices.Repeat([]api.Node{empty}, 201)...))
}

// P16.1: brackets within brackets, up to 20, and as many as one likes side by side.
func TestBrackets(t *testing.T) {
	a, b, c := char('a'), char('b'), char('c')
	check(t, "((a))", a)
	check(t, "(((ab)))", join(a, b))
	check(t, "((a)b)", join(a, b))
	check(t, "((ab)c)", join(join(a, b), c))
	check(t, "((a|b)c|a)", either(join(either(a, b), c), a))
	check(t, "((a)|(b))", either(a, b))
	check(t, "(a(b(c|a)b)c)", join(a, join(b, either(c, a), b), c))
	check(t, "(())", empty)
	check(t, "[(]a[)]", join(char('('), a, char(')')))
	check(t, `\(a\)`, join(char('('), a, char(')')))
	for _, n := range []int{1, 2, 19, 20} {
		open, shut := strings.Repeat("(", n), strings.Repeat(")", n)
		check(t, open+shut, empty)
		check(t, open+"a"+shut, a)
		check(t, open+"ab"+shut+open+"c"+shut, join(join(a, b), c))
		want, text := a, "a"
		for range n {
			want, text = join(want, b), "("+text+"b)"
		}
		check(t, text, want)
		want, text = a, "a"
		for range n {
			want, text = either(b, want), "(b|"+text+")"
		}
		check(t, text, want)
	}
	check(t, strings.Repeat("(a)", 60), join(slices.Repeat([]api.Node{a}, 60)...))
	deep := strings.Repeat("(", 20) + "a" + strings.Repeat(")", 20)
	check(t, deep+"|"+deep+deep, either(a, join(a, a)))
}

// P16.1: each repeat, lazy and not, of a character, of a class, of a group, of brackets, of a beginning and an end, of what is empty in brackets.
func TestRepeats(t *testing.T) {
	a, b := char('a'), char('b')
	for sign, x := range map[string][2]int{"?": {0, 1}, "*": {0, -1}, "+": {1, -1}, "{0}": {0, 0}, "{1}": {1, 1}, "{2}": {2, 2}, "{20}": {20, 20}, "{0,}": {0, -1}, "{1,}": {1, -1}, "{20,}": {20, -1}, "{0,0}": {0, 0}, "{0,1}": {0, 1}, "{2,3}": {2, 3}, "{0,20}": {0, 20}, "{20,20}": {20, 20}} {
		low, high := x[0], x[1]
		for text, n := range map[string]api.Node{"a": a, ".": set(0, 9, 0xb, api.Top), "[ab]": set('a', 'b'), "[]": set(), `\d`: set('0', '9'), `\*`: char('*'), "(a)": a, "(ab)": join(a, b), "(a|b)": either(a, b), "^": start, "$": stop, "()": empty, "(())": empty, "(|)": either(empty, empty), "]": char(']'), "}": char('}')} {
			for _, lazy := range []string{"", "?"} {
				l := sample.Chars(text + sign + lazy)
				checkList(t, l, 0, repeat(low, high, n), 0, api.OK)
				checkList(t, slices.Concat(sample.Chars("b"), l, sample.Chars("a")), 0, join(b, repeat(low, high, n), a), 0, api.OK)
				checkList(t, slices.Concat(sample.Chars("("), l, sample.Chars(")")), 0, repeat(low, high, n), 0, api.OK)
				checkList(t, slices.Concat(sample.Chars("b|"), l, sample.Chars("|a")), 0, either(b, repeat(low, high, n), a), 0, api.OK)
				checkList(t, slices.Concat(sample.Chars("("), l, sample.Chars(")*?")), 0, repeat(0, -1, repeat(low, high, n)), 0, api.OK)
				checkList(t, slices.Concat(l, l), 0, join(repeat(low, high, n), repeat(low, high, n)), 0, api.OK)
			}
		}
	}
	check(t, "ab*", join(a, repeat(0, -1, b)))
	check(t, "a*b*?a+", join(repeat(0, -1, a), repeat(0, -1, b), repeat(1, -1, a)))
	check(t, "(a*)*", repeat(0, -1, repeat(0, -1, a)))
	check(t, "((a?)+?){3}", repeat(3, 3, repeat(1, -1, repeat(0, 1, a))))
	check(t, "(a*b)?", repeat(0, 1, join(repeat(0, -1, a), b)))
	check(t, "a*|b+", either(repeat(0, -1, a), repeat(1, -1, b)))
	check(t, "^*$+", join(repeat(0, -1, start), repeat(1, -1, stop)))
	check(t, "[*]*", repeat(0, -1, char('*')))
}

// P16.1: all flags, and what is none; it is told ahead of all else.
func TestWrongFlags(t *testing.T) {
	patterns := []string{"", "a", ".", "*", ")", "(", "[", `\q`, "{", "a{21}", "[b-a]", strings.Repeat("a", 201), strings.Repeat("(", 21), "(a{20}){20}"}
	for _, flags := range []int{-1, -2, -7, -8, 8, 9, 15, 16, 255, 256, 257, 1 << 31, 1 << 32, 1<<32 + 1, -1<<32 + 4, 1 << 62, math.MaxInt, math.MinInt, math.MinInt + 7} {
		for _, pattern := range patterns {
			checkList(t, sample.Chars(pattern), flags, api.Node{}, 0, api.ErrFlag)
		}
	}
	for flags := range 8 {
		for _, pattern := range patterns {
			if _, _, e := tree.Parse(sample.Chars(pattern), flags); e == api.ErrFlag {
				t.Errorf("Parse of %q by %d", pattern, flags)
			}
			checkOracle(t, sample.Chars(pattern), flags)
		}
	}
}

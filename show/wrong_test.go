package show_test

import (
	"slices"
	"strings"
	"testing"

	"ductus/api"
	"ductus/sample"
	"ductus/show"
)

// checkLong: with so many characters behind it, a tree's pattern has just 200, and is shown; with one more it isn't.
func checkLong(t *testing.T, n api.Node, text string) {
	t.Helper()
	left := 200 - len(sample.Chars(text))
	of := func(many int) api.Node {
		return join(append([]api.Node{n}, slices.Repeat([]api.Node{char('a')}, many)...)...)
	}
	check(t, of(left-1), text+strings.Repeat("a", left-1))
	check(t, of(left), text+strings.Repeat("a", left))
	for _, many := range []int{left + 1, left + 2, left + 100} {
		checkTree(t, of(many), nil, api.ErrSize)
	}
}

// P17.1: a pattern of 200 characters, and of 201, by each kind that makes it longer.
func TestLong(t *testing.T) {
	a, b := char('a'), char('b')
	many := func(n api.Node, often int) []api.Node { return slices.Repeat([]api.Node{n}, often) }
	checkLong(t, a, "a")
	checkLong(t, empty, "()")
	checkLong(t, start, "^")
	checkLong(t, stop, "$")
	checkLong(t, char('*'), `\*`)
	checkLong(t, char(0x5d0), "\u05d0")
	checkLong(t, set(), "[]")
	checkLong(t, set('a', 'z'), "[a-z]")
	checkLong(t, set('(', ')', '-', '-'), `[\(-\)\-]`)
	checkLong(t, join(a, b), "(ab)")
	checkLong(t, join(many(b, 100)...), "("+strings.Repeat("b", 100)+")")
	checkLong(t, either(a, b), "(a|b)")
	checkLong(t, either(many(b, 90)...), "(b"+strings.Repeat("|b", 89)+")")
	checkLong(t, either(many(join(a, b), 60)...), "(ab"+strings.Repeat("|ab", 59)+")")
	checkLong(t, either(either(a, b), empty), "((a|b)|())")
	checkLong(t, repeat(0, -1, a), "a*")
	checkLong(t, repeat(10, 20, a), "a{10,20}")
	checkLong(t, repeat(2, -1, a), "a{2,}")
	checkLong(t, repeat(9, 9, join(a, b)), "(ab){9}")
	checkLong(t, repeat(0, 1, repeat(1, -1, a)), "(a+)?")
	check(t, join(many(a, 200)...), strings.Repeat("a", 200))
	checkTree(t, join(many(a, 201)...), nil, api.ErrSize)
	check(t, join(many(start, 200)...), strings.Repeat("^", 200))
	checkTree(t, join(many(stop, 201)...), nil, api.ErrSize)
	check(t, join(many(char(0x10000), 200)...), strings.Repeat("\U00010000", 200))
	checkTree(t, join(many(char(0x10000), 201)...), nil, api.ErrSize)
	check(t, join(many(empty, 100)...), strings.Repeat("()", 100))
	checkTree(t, join(append(many(empty, 100), a)...), nil, api.ErrSize)
	check(t, join(many(char('|'), 100)...), strings.Repeat(`\|`, 100))
	checkTree(t, join(append(many(char('|'), 100), a)...), nil, api.ErrSize)
	check(t, either(append(many(a, 99), set())...), strings.Repeat("a|", 99)+"[]")
	checkTree(t, either(many(a, 101)...), nil, api.ErrSize)
	check(t, either(many(a, 100)...), strings.Repeat("a|", 99)+"a")
	check(t, repeat(0, 1, join(many(a, 197)...)), "("+strings.Repeat("a", 197)+")?")
	checkTree(t, repeat(0, 1, join(many(a, 198)...)), nil, api.ErrSize)
	check(t, repeat(10, 20, join(many(a, 191)...)), "("+strings.Repeat("a", 191)+"){10,20}")
	checkTree(t, repeat(10, 20, join(many(a, 192)...)), nil, api.ErrSize)
}

// P17.1: classes of 200 characters, and of 201.
func TestLongClasses(t *testing.T) {
	of := func(l []api.Range) api.Node { return api.Node{Kind: 2, Ranges: l} }
	shown := func(many int) []int {
		out := []int{'['}
		for i := range many {
			out = append(out, 0x4000+2*i)
		}
		return append(out, ']')
	}
	checkTree(t, of(apart(197)), shown(197), api.OK)
	checkTree(t, of(apart(198)), shown(198), api.OK)
	for _, many := range []int{199, 200, 399, 400} {
		checkTree(t, of(apart(many)), nil, api.ErrSize)
	}
	checkTree(t, of(apart(401)), nil, api.ErrArg)
	twos := func(many int) []api.Range {
		var out []api.Range
		for i := range many {
			out = append(out, between(0x4000+9*i, 0x4001+9*i)...)
		}
		return out
	}
	checkOracle(t, of(twos(66)))
	if l, e := show.Pattern(of(twos(66))); len(l) != 200 || e != api.OK {
		t.Errorf("of 66 ranges: %d characters, error %d", len(l), e)
	}
	checkTree(t, of(append(twos(66), between(0x5000, 0x5000)...)), nil, api.ErrSize)
	checkTree(t, of(twos(67)), nil, api.ErrSize)
	checkOracle(t, of(append(between('(', '('), apart(196)...)))
	if l, e := show.Pattern(of(append(between('(', '('), apart(196)...))); len(l) != 200 || e != api.OK {
		t.Errorf("of a sign and 196 more: %d characters, error %d", len(l), e)
	}
	checkTree(t, of(append(between('(', '('), apart(197)...)), nil, api.ErrSize)
}

// P17.1: repeats within one another, up to 200 characters and above.
func TestLongRepeats(t *testing.T) {
	ab, abc := join(char('a'), char('b')), join(char('a'), char('b'), char('c'))
	check(t, within(char('a'), 5, 67, true), strings.Repeat("(", 66)+"a"+strings.Repeat("?)", 66)+"?")
	checkTree(t, within(char('a'), 5, 68, true), nil, api.ErrSize)
	checkTree(t, within(char('a'), 5, 99, true), nil, api.ErrSize)
	checkTree(t, within(char('a'), 5, 100, true), nil, api.ErrArg)
	check(t, within(ab, 5, 66, true), strings.Repeat("(", 66)+"ab"+strings.Repeat(")?", 66))
	checkTree(t, within(abc, 5, 66, true), nil, api.ErrSize)
	check(t, within(abc, 5, 65, true), strings.Repeat("(", 65)+"abc"+strings.Repeat(")?", 65))
}

// P17.1: where Right says no the error is ErrArg, also where the pattern would be too long.
func TestWrongAndLong(t *testing.T) {
	a := char('a')
	long := slices.Repeat([]api.Node{a}, 300)
	checkTree(t, join(long...), nil, api.ErrSize)
	for _, n := range []api.Node{{}, {Kind: 8}, {Kind: 1, Low: 1}, {Kind: 6, Kids: []api.Node{a}}, set(2, 1), set(1, 2, 3, 4), join(a), either(), repeat(0, 21, a), repeat(0, 1), repeat(2, 1, a), repeat(0, -2, a)} {
		checkArg(t, join(append(slices.Clone(long), n)...))
		checkArg(t, join(append([]api.Node{n}, long...)...))
		checkArg(t, either(join(long...), n))
		checkArg(t, repeat(0, 1, either(n, join(long...))))
	}
	checkArg(t, join(slices.Repeat([]api.Node{a}, 400)...))
	checkArg(t, join(append(slices.Repeat([]api.Node{set(1, 2, 4, 5)}, 200), a)...))
	checkTree(t, join(slices.Repeat([]api.Node{set(1, 2, 4, 5)}, 200)...), nil, api.ErrSize)
	wrong := join(long...)
	wrong.Low = 1
	checkArg(t, wrong)
	wrong = join(long...)
	wrong.Ranges = between(1, 2)
	checkArg(t, wrong)
}

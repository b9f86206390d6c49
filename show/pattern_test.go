package show_test

import (
	"strconv"
	"testing"

	"ductus/api"
	"ductus/sample"
)

// P17.1: the chapter's example, and the kinds alone.
func TestExamples(t *testing.T) {
	check(t, repeat(0, -1, set('a', 'b')), "[a-b]*")
	check(t, empty, "()")
	check(t, start, "^")
	check(t, stop, "$")
	check(t, char('a'), "a")
	check(t, set(), "[]")
	check(t, set('a', 'b'), "[a-b]")
	check(t, join(char('a'), char('b')), "ab")
	check(t, either(char('a'), char('b')), "a|b")
	check(t, repeat(0, 1, char('a')), "a?")
}

// P17.1: each kind as a Kid of each other one, and of its own: which stand in brackets, which don't.
func TestKindsInOneAnother(t *testing.T) {
	a, b, c := char('a'), char('b'), char('c')
	for _, x := range []struct {
		n                                api.Node
		join, behind, either, rest, many string
	}{
		{empty, "()c", "c()", "()|c", "c|()", "()*"},
		{start, "^c", "c^", "^|c", "c|^", "^*"},
		{stop, "$c", "c$", "$|c", "c|$", "$*"},
		{a, "ac", "ca", "a|c", "c|a", "a*"},
		{set(), "[]c", "c[]", "[]|c", "c|[]", "[]*"},
		{set('a', 'b'), "[a-b]c", "c[a-b]", "[a-b]|c", "c|[a-b]", "[a-b]*"},
		{char('*'), `\*c`, `c\*`, `\*|c`, `c|\*`, `\**`},
		{join(a, b), "(ab)c", "c(ab)", "ab|c", "c|ab", "(ab)*"},
		{either(a, b), "(a|b)c", "c(a|b)", "(a|b)|c", "c|(a|b)", "(a|b)*"},
		{repeat(1, -1, a), "a+c", "ca+", "a+|c", "c|a+", "(a+)*"},
		{repeat(2, 3, a), "a{2,3}c", "ca{2,3}", "a{2,3}|c", "c|a{2,3}", "(a{2,3})*"},
	} {
		check(t, join(x.n, c), x.join)
		check(t, join(c, x.n), x.behind)
		check(t, join(c, x.n, c), "c"+x.join)
		check(t, either(x.n, c), x.either)
		check(t, either(c, x.n), x.rest)
		check(t, either(c, x.n, c), "c|"+x.either)
		check(t, repeat(0, -1, x.n), x.many)
		check(t, join(either(c, x.n), c), "("+x.rest+")c")
		check(t, either(join(x.n, c), c), x.join+"|c")
		check(t, repeat(0, 1, join(c, x.n)), "("+x.behind+")?")
		check(t, repeat(0, 1, either(c, x.n)), "("+x.rest+")?")
		check(t, repeat(0, 1, repeat(0, -1, x.n)), "("+x.many+")?")
	}
}

// P17.1: joins and ors in one another, both ways, deep down, and of several.
func TestJoinsAndOrs(t *testing.T) {
	a, b, c, d := char('a'), char('b'), char('c'), char('d')
	check(t, join(a, b, c, d), "abcd")
	check(t, either(a, b, c, d), "a|b|c|d")
	check(t, join(join(a, b), join(c, d)), "(ab)(cd)")
	check(t, join(join(join(a, b), c), d), "((ab)c)d")
	check(t, join(a, join(b, join(c, d))), "a(b(cd))")
	check(t, either(either(a, b), either(c, d)), "(a|b)|(c|d)")
	check(t, either(either(either(a, b), c), d), "((a|b)|c)|d")
	check(t, either(a, either(b, either(c, d))), "a|(b|(c|d))")
	check(t, join(either(a, b), either(c, d)), "(a|b)(c|d)")
	check(t, either(join(a, b), join(c, d)), "ab|cd")
	check(t, join(a, either(b, join(c, d))), "a(b|cd)")
	check(t, either(a, join(b, either(c, d))), "a|b(c|d)")
	check(t, join(either(join(a, b), c), d), "(ab|c)d")
	check(t, either(join(either(a, b), c), d), "(a|b)c|d")
	check(t, either(join(join(a, b), c), either(join(c, d), a)), "(ab)c|(cd|a)")
	check(t, either(empty, empty), "()|()")
	check(t, either(a, empty, b), "a|()|b")
	check(t, join(empty, empty, empty), "()()()")
	check(t, join(start, a, stop), "^a$")
	check(t, join(a, a), "aa")
	check(t, either(a, a), "a|a")
	check(t, join(join(set(), start), stop), "([]^)$")
}

// P17.1: each repeat that is shown as ?, *, +, {n}, {n,}, {n,m}.
func TestRepeats(t *testing.T) {
	for text, times := range map[string][2]int{
		"?": {0, 1}, "*": {0, -1}, "+": {1, -1},
		"{0}": {0, 0}, "{1}": {1, 1}, "{2}": {2, 2}, "{9}": {9, 9}, "{10}": {10, 10}, "{19}": {19, 19}, "{20}": {20, 20},
		"{2,}": {2, -1}, "{9,}": {9, -1}, "{10,}": {10, -1}, "{19,}": {19, -1}, "{20,}": {20, -1},
		"{0,2}": {0, 2}, "{0,9}": {0, 9}, "{0,10}": {0, 10}, "{0,19}": {0, 19}, "{0,20}": {0, 20},
		"{1,2}": {1, 2}, "{1,9}": {1, 9}, "{1,20}": {1, 20}, "{2,3}": {2, 3}, "{2,9}": {2, 9}, "{2,10}": {2, 10}, "{9,10}": {9, 10}, "{9,20}": {9, 20}, "{10,19}": {10, 19}, "{10,20}": {10, 20}, "{19,20}": {19, 20},
	} {
		check(t, repeat(times[0], times[1], char('a')), "a"+text)
		check(t, repeat(times[0], times[1], empty), "()"+text)
		check(t, repeat(times[0], times[1], start), "^"+text)
		check(t, repeat(times[0], times[1], set('a', 'b')), "[a-b]"+text)
		check(t, repeat(times[0], times[1], char('?')), `\?`+text)
		check(t, repeat(times[0], times[1], join(char('a'), char('b'))), "(ab)"+text)
		check(t, join(repeat(times[0], times[1], char('a')), char('{'), char('1'), char('}')), "a"+text+`\{1\}`)
		check(t, repeat(2, 2, repeat(times[0], times[1], char('a'))), "(a"+text+"){2}")
	}
	for low := range 21 {
		for high := low; high <= 20; high++ {
			checkOracle(t, repeat(low, high, char('a')))
		}
		checkOracle(t, repeat(low, -1, char('a')))
	}
}

// P17.1: repeats of repeats, however many.
func TestRepeatsOfRepeats(t *testing.T) {
	a := char('a')
	check(t, repeat(0, -1, repeat(0, -1, a)), "(a*)*")
	check(t, repeat(0, 1, repeat(1, -1, a)), "(a+)?")
	check(t, repeat(1, -1, repeat(0, 1, a)), "(a?)+")
	check(t, repeat(2, 2, repeat(3, 3, repeat(4, -1, a))), "((a{4,}){3}){2}")
	check(t, repeat(1, 1, repeat(1, 1, a)), "(a{1}){1}")
	check(t, repeat(0, 0, repeat(0, 0, empty)), "((){0}){0}")
	check(t, repeat(0, -1, join(repeat(0, -1, a), repeat(0, 1, a))), "(a*a?)*")
	check(t, repeat(0, -1, either(repeat(0, -1, a), repeat(0, 1, a))), "(a*|a?)*")
}

// P17.1: sets of one character, of each sign that layer 15 quotes, and of others.
func TestCharacters(t *testing.T) {
	for _, sign := range `.()^$?*+{}[]-/\|` {
		text := `\` + string(sign)
		check(t, char(int(sign)), text)
		check(t, join(char(int(sign)), char(int(sign))), text+text)
		check(t, either(char(int(sign)), char('a')), text+"|a")
		check(t, repeat(0, 1, char(int(sign))), text+"?")
	}
	for _, c := range []int{0, 1, '\t', '\n', '\r', ' ', '!', '"', '#', '%', '&', '\'', ',', '0', '9', ':', '<', '>', '@', 'A', 'Z', '_', '`', 'a', 'd', 'n', 't', 'w', 'z', '~', 0x7f, 0x80, 0xff, 0x5d0, 0x202b, 0xd800, 0xdfff, 0xfffd, 0xffff, 0x10000, 0x10fffe, api.Top} {
		checkTree(t, char(c), []int{c}, api.OK)
		checkTree(t, join(char(c), char(c)), []int{c, c}, api.OK)
		checkTree(t, repeat(2, 2, char(c)), []int{c, '{', '2', '}'}, api.OK)
	}
	for c := range 0x3000 {
		checkOracle(t, char(c))
	}
}

// P17.1: sets of none, of two characters that touch, of one range, of several, of signs as Low and as High, with 0, Top, newline and tabulator.
func TestSets(t *testing.T) {
	check(t, set(), "[]")
	check(t, set('a', 'b'), "[a-b]")
	check(t, set('a', 'z'), "[a-z]")
	check(t, set('a', 'a', 'c', 'c'), "[ac]")
	check(t, set('0', '9', 'a', 'a', 'c', 'd', 'x', 'x'), "[0-9ac-dx]")
	check(t, set('0', '9', 'A', 'Z', '_', '_', 'a', 'z'), "[0-9A-Z_a-z]")
	check(t, set('-', '-', ']', '^', 'x', 'x'), `[\-\]-\^x]`)
	check(t, set('^', '^', 'a', 'a'), `[\^a]`)
	check(t, set('^', 'a'), `[\^-a]`)
	check(t, set('Z', '['), `[Z-\[]`)
	check(t, set('(', ')'), `[\(-\)]`)
	check(t, set('-', '/'), `[\--\/]`)
	check(t, set('+', '-', '/', '/'), `[\+-\-\/]`)
	check(t, set('\\', ']'), `[\\-\]]`)
	check(t, set('.', '.', '\\', '\\'), `[\.\\]`)
	check(t, set('{', '}'), `[\{-\}]`)
	check(t, set('$', '$', '?', '?', '|', '|'), `[\$\?\|]`)
	check(t, set('a', 'a', 'd', 'd', 'n', 'n', 't', 't'), "[adnt]")
	check(t, set('\t', '\n'), "[\t-\n]")
	check(t, set('\t', '\t', '\r', '\r'), "[\t\r]")
	check(t, set('\n', '\n', 'a', 'a'), "[\na]")
	check(t, set(0, api.Top), "[\x00-\U0010ffff]")
	check(t, set(0, 9, 0xb, api.Top), "[\x00-\t\v-\U0010ffff]")
	check(t, set(0, 0, api.Top, api.Top), "[\x00\U0010ffff]")
	check(t, set(0, 1), "[\x00-\x01]")
	check(t, set(0x5d0, 0x5ea), "[\u05d0-\u05ea]")
	checkTree(t, set(0xd800, 0xdfff), []int{'[', 0xd800, '-', 0xdfff, ']'}, api.OK)
	checkTree(t, set(api.Top-1, api.Top), []int{'[', api.Top - 1, '-', api.Top, ']'}, api.OK)
	signs := sample.Chars(`.()^$?*+{}[]-/\|az` + "\n\t\x00")
	for _, low := range signs {
		for _, high := range signs {
			checkOracle(t, set(low, high))
			checkOracle(t, set(low, low, high, high))
			checkOracle(t, set(low, high, 0x5d0, 0x5d0))
			checkOracle(t, set(0x5, 0x5, low, high, 0x5d0, 0x5ea))
		}
	}
}

// P17.1: mixed trees, by the chapter's words, right ones and such with one thing wrong somewhere.
func TestMixedTrees(t *testing.T) {
	right := map[api.Errno]int{}
	i := 0
	for n := range mixed(6000, 40) {
		checkOracle(t, n)
		_, e := shownOf(n)
		right[e]++
		other := sample.Copied(n)
		nodes := sample.Nodes(&other)
		node := nodes[i%len(nodes)]
		spoils[i%len(spoils)](node)
		checkOracle(t, other)
		_, e = shownOf(other)
		right[e]++
		i++
	}
	if right[api.OK] < 4000 || right[api.ErrArg] < 4000 {
		t.Errorf("so many of each: %v", right)
	}
	long := map[api.Errno]int{}
	for n := range mixed(1500, 220) {
		checkOracle(t, n)
		_, e := shownOf(n)
		long[e]++
	}
	if long[api.OK] < 200 || long[api.ErrSize] < 200 {
		t.Errorf("so many of each, of long ones: %v", long)
	}
}

// spoils: each makes of most nodes one that may not be shown.
var spoils = []func(n *api.Node){
	func(n *api.Node) { n.Kind = 0 },
	func(n *api.Node) { n.Kind = 8 },
	func(n *api.Node) { n.Kind = 2 + n.Kind%5 },
	func(n *api.Node) { n.Low = 1 },
	func(n *api.Node) { n.Low = 21 },
	func(n *api.Node) { n.High = -1 },
	func(n *api.Node) { n.High = 2 },
	func(n *api.Node) { n.Low, n.High = 3, 2 },
	func(n *api.Node) { n.Ranges = append(n.Ranges, api.Range{Low: 'm', High: 'n'}) },
	func(n *api.Node) { n.Kids = append(n.Kids, char('a')) },
	func(n *api.Node) { n.Kids = nil },
	func(n *api.Node) { n.Kids = n.Kids[:len(n.Kids)/2] },
}

// mixed: so many trees of up to so many nodes that may be shown, if they have no more ranges, and aren't deeper, than they may.
func mixed(many, most int) func(yield func(api.Node) bool) {
	leaves := []api.Node{empty, start, stop, char('a'), char('b'), char('*'), char('\\'), char('\n'), char(0x5d0), char(api.Top), set(), set('a', 'b'), set('0', '9', 'x', 'x'), set('+', '-', ']', '^'), set(0, 9, 0xb, api.Top)}
	times := [][2]int{{0, 1}, {0, -1}, {1, -1}, {0, 0}, {1, 1}, {2, 2}, {20, 20}, {2, -1}, {20, -1}, {0, 2}, {1, 9}, {10, 20}}
	return sample.Trees(leaves, times, many, most)
}

// P17.1: numbers are told by their digits alone.
func TestNumbers(t *testing.T) {
	for n := range 21 {
		text := strconv.Itoa(n)
		check(t, repeat(n, n, char('x')), "x{"+text+"}")
		if n > 1 {
			check(t, repeat(n, -1, char('x')), "x{"+text+",}")
			check(t, repeat(0, n, char('x')), "x{0,"+text+"}")
		}
	}
}

package token_test

import (
	"slices"
	"strconv"
	"strings"
	"testing"

	"ductus/api"
	"ductus/sample"
	"ductus/token"
)

// P15.1: the chapter's example, no pattern, and one character of each kind.
func TestOf(t *testing.T) {
	check(t, "a{2,3}?", char('a', 0), repeat(2, 3, 1), lazy(6))
	check(t, "")
	checkList(t, nil, nil, 0, api.OK)
	checkList(t, []int{}, nil, 0, api.OK)
	for _, c := range slices.Concat(none, others, sample.Chars("a Z0_,:=<>!#&'\"~-]}/\n\t")) {
		checkList(t, []int{c}, []api.Token{char(c, 0)}, 0, api.OK)
		checkList(t, []int{c, c}, []api.Token{char(c, 0), char(c, 1)}, 0, api.OK)
		checkList(t, []int{'.', c, '*'}, []api.Token{kind(2, 0), char(c, 1), repeat(0, -1, 2)}, 0, api.OK)
	}
}

// P15.1: the kinds have the numbers that the chapter tells.
func TestKinds(t *testing.T) {
	for n, k := range []int{1: api.TokChar, 2: api.TokAny, 3: api.TokOpen, 4: api.TokShut, 5: api.TokOr, 6: api.TokRepeat, 7: api.TokClass, 8: api.TokEnd, 9: api.TokRange, 10: api.TokStart, 11: api.TokStop, 12: api.TokGroup, 13: api.TokLazy} {
		if k != n {
			t.Errorf("a kind is %d, not %d", k, n)
		}
	}
}

// P15.1: the signs that are a token by themselves, alone, beside one another, and as the pattern's first and last ones; nothing must be opened for a ).
func TestAlone(t *testing.T) {
	for sign, k := range map[string]int{".": 2, "(": 3, ")": 4, "\x7c": 5, "^": 10, "$": 11} {
		check(t, sign, kind(k, 0))
		check(t, sign+sign, kind(k, 0), kind(k, 1))
		check(t, "a"+sign+"b", char('a', 0), kind(k, 1), char('b', 2))
		check(t, sign+"[a]"+sign, kind(k, 0), class(0, 1), char('a', 2), end(3), kind(k, 4))
		check(t, sign+"*"+sign, kind(k, 0), repeat(0, -1, 1), kind(k, 2))
	}
	check(t, ".()|^$", kind(2, 0), kind(3, 1), kind(4, 2), kind(5, 3), kind(10, 4), kind(11, 5))
	check(t, "(^|$)", kind(3, 0), kind(10, 1), kind(5, 2), kind(11, 3), kind(4, 4))
}

// P15.1: ? * and +, whatever stands ahead of them; and what only looks like a repeat.
func TestRepeats(t *testing.T) {
	for _, ahead := range []struct {
		text  string
		token api.Token
	}{{"a", char('a', 0)}, {".", kind(2, 0)}, {"(", kind(3, 0)}, {")", kind(4, 0)}, {"|", kind(5, 0)}, {"^", kind(10, 0)}, {"$", kind(11, 0)}, {`\d`, group('d', 0)}, {`\?`, char('?', 0)}, {`\*`, char('*', 0)}, {`\n`, char(0xa, 0)}, {"]", char(']', 0)}, {"}", char('}', 0)}} {
		n := len(ahead.text)
		check(t, ahead.text+"?", ahead.token, repeat(0, 1, n))
		check(t, ahead.text+"*", ahead.token, repeat(0, -1, n))
		check(t, ahead.text+"+", ahead.token, repeat(1, -1, n))
		check(t, ahead.text+"{3,7}", ahead.token, repeat(3, 7, n))
	}
	check(t, "?", repeat(0, 1, 0))
	check(t, "*", repeat(0, -1, 0))
	check(t, "+", repeat(1, -1, 0))
	check(t, "?*+", repeat(0, 1, 0), repeat(0, -1, 1), repeat(1, -1, 2))
	check(t, "+*?", repeat(1, -1, 0), repeat(0, -1, 1), lazy(2))
	check(t, "[?]?", class(0, 0), char('?', 1), end(2), repeat(0, 1, 3))
	check(t, "a}", char('a', 0), char('}', 1))
	check(t, "a,2}", char('a', 0), char(',', 1), char('2', 2), char('}', 3))
	check(t, "}{2}", char('}', 0), repeat(2, 2, 1))
	check(t, `\{2}`, char('{', 0), char('2', 2), char('}', 3))
}

// P15.1: ? right behind each repeat, once, twice and three times; and behind none.
func TestLazy(t *testing.T) {
	for text, r := range map[string]api.Token{"?": repeat(0, 1, 0), "*": repeat(0, -1, 0), "+": repeat(1, -1, 0), "{3}": repeat(3, 3, 0), "{0,}": repeat(0, -1, 0), "{1,}": repeat(1, -1, 0), "{0,1}": repeat(0, 1, 0), "{12,20}": repeat(12, 20, 0)} {
		n := len(text)
		check(t, text, r)
		check(t, text+"?", r, lazy(n))
		check(t, text+"??", r, lazy(n), repeat(0, 1, n+1))
		check(t, text+"???", r, lazy(n), repeat(0, 1, n+1), lazy(n+2))
		check(t, text+"a?", r, char('a', n), repeat(0, 1, n+1))
		check(t, text+")?", r, kind(4, n), repeat(0, 1, n+1))
		check(t, text+`\??`, r, char('?', n), repeat(0, 1, n+2))
		check(t, text+"[?]", r, class(0, n), char('?', n+1), end(n+2))
		check(t, text+"*?", r, repeat(0, -1, n), lazy(n+1))
		check(t, text+"?+?", r, lazy(n), repeat(1, -1, n+1), lazy(n+2))
	}
}

// checkTimes: one pair of numbers in braces of each form, in a pattern.
func checkTimes(t *testing.T, n, m int) {
	t.Helper()
	low, high := strconv.Itoa(n), strconv.Itoa(m)
	check(t, "a{"+low+"}b", char('a', 0), repeat(n, n, 1), char('b', 3+len(low)))
	check(t, "a{"+low+",}b", char('a', 0), repeat(n, -1, 1), char('b', 4+len(low)))
	both := "a{" + low + "," + high + "}b"
	if n <= m {
		check(t, both, char('a', 0), repeat(n, m, 1), char('b', len(both)-1))
	} else {
		checkWrong(t, both, 1, api.ErrCount)
	}
}

// P15.1: {n}, {n,} and {n,m}, with all numbers up to 20.
func TestBraces(t *testing.T) {
	for n := range 21 {
		for m := range 21 {
			checkTimes(t, n, m)
		}
	}
	check(t, "{0}{1}{19}{20}", repeat(0, 0, 0), repeat(1, 1, 3), repeat(19, 19, 6), repeat(20, 20, 10))
	check(t, "{0,}{1,}{19,}{20,}", repeat(0, -1, 0), repeat(1, -1, 4), repeat(19, -1, 8), repeat(20, -1, 13))
	check(t, "{0,0}{0,20}{1,19}{19,20}{20,20}", repeat(0, 0, 0), repeat(0, 20, 5), repeat(1, 19, 11), repeat(19, 20, 17), repeat(20, 20, 24))
}

// P15.1: each escape, outside of a class and in it.
func TestEscapes(t *testing.T) {
	for _, sign := range allSigns {
		c := int(sign)
		check(t, `\`+string(sign), char(c, 0))
		check(t, `a\`+string(sign)+`?`, char('a', 0), char(c, 1), repeat(0, 1, 3))
		check(t, `[\`+string(sign)+`]`, class(0, 0), char(c, 1), end(3))
		check(t, `[^\`+string(sign)+`]`, class(1, 0), char(c, 2), end(4))
	}
	for _, letter := range groups {
		c := int(letter)
		check(t, `\`+string(letter), group(c, 0))
		check(t, `a\`+string(letter)+`?`, char('a', 0), group(c, 1), repeat(0, 1, 3))
		check(t, `[\`+string(letter)+`]`, class(0, 0), group(c, 1), end(3))
		check(t, `[^a\`+string(letter)+`]`, class(1, 0), char('a', 2), group(c, 3), end(5))
	}
	check(t, `\n\t`, char(0xa, 0), char(0x9, 2))
	check(t, `[\n\t]`, class(0, 0), char(0xa, 1), char(0x9, 3), end(5))
	check(t, `nt\\n\\\t`, char('n', 0), char('t', 1), char('\\', 2), char('n', 4), char('\\', 5), char(0x9, 7))
	check(t, `\d\n\t\\\-`, group('d', 0), char(0xa, 2), char(0x9, 4), char('\\', 6), char('-', 8))
	check(t, "\n\t", char(0xa, 0), char(0x9, 1))
}

// P15.1: where each token begins, behind those of more than one character.
func TestPlaces(t *testing.T) {
	check(t, `\.[^a-c\d]{10,20}?(\n)`, char('.', 0), class(1, 2), span('a', 'c', 4), group('d', 7), end(9), repeat(10, 20, 10), lazy(17), kind(3, 18), char(0xa, 19), kind(4, 21))
	check(t, "\u05d0\U0001f600\u0301|", char(0x5d0, 0), char(0x1f600, 1), char(0x301, 2), kind(5, 3))
	for text, n := range map[string]int{"a": 1, "{2}": 1, "{2,}": 1, "{12,13}": 1, `\d`: 1, `\\`: 1, "[]": 2, "[^]": 2, "[a-c]": 3, `[\n-\\]`: 3, "?": 1} {
		l, _, e := token.Of(sample.Chars(strings.Repeat(text, 3) + "|"))
		if e != api.OK || len(l) == 0 || l[len(l)-1] != kind(5, 3*len(text)) {
			t.Errorf("three times %s, and an or-sign: %v, error %d", text, l, e)
		} else if text != "?" && len(l) != 3*n+1 {
			t.Errorf("three times %s: %d tokens", text, len(l))
		}
	}
}

// P15.1: 200 characters, also where each is a token, and where all are one class.
func TestLongest(t *testing.T) {
	for _, text := range []string{"a", ")", "?", "]", "}", "^", "\u05d0"} {
		l := sample.Chars(strings.Repeat(text, 200))
		tokens, at, e := token.Of(l)
		if len(tokens) != 200 || at != 0 || e != api.OK || tokens[199].Pos != 199 {
			t.Errorf("200 times %s: %d tokens, %d, error %d", text, len(tokens), at, e)
		}
		checkOracle(t, l)
	}
	checkOracle(t, sample.Chars("["+strings.Repeat("a-b", 66)+"]"))
	checkOracle(t, sample.Chars(strings.Repeat("{2,3}", 40)))
	checkOracle(t, sample.Chars(strings.Repeat(`\d`, 100)))
	for n := range 200 {
		checkOracle(t, slices.Repeat([]int{'a'}, n))
	}
}

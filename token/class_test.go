package token_test

import (
	"slices"
	"testing"

	"ductus/api"
	"ductus/sample"
)

// P15.1: [ with and without ^ right behind it, and with ^ later on.
func TestClass(t *testing.T) {
	check(t, "[a]", class(0, 0), char('a', 1), end(2))
	check(t, "[^a]", class(1, 0), char('a', 2), end(3))
	check(t, "[a^]", class(0, 0), char('a', 1), char('^', 2), end(3))
	check(t, "[^^]", class(1, 0), char('^', 2), end(3))
	check(t, "[^a^]", class(1, 0), char('a', 2), char('^', 3), end(4))
	check(t, `[\^a]`, class(0, 0), char('^', 1), char('a', 3), end(4))
	check(t, "^[a]^", kind(10, 0), class(0, 1), char('a', 2), end(3), kind(10, 4))
	check(t, "[a][^b]c", class(0, 0), char('a', 1), end(2), class(1, 3), char('b', 5), end(6), char('c', 7))
	check(t, "[a-c\\]^.]", class(0, 0), span('a', 'c', 1), char(']', 4), char('^', 6), char('.', 7), end(8))
}

// P15.1: ] right behind [ and behind [^ ends it; outside of a class ] and } and - are characters.
func TestEmptyClass(t *testing.T) {
	check(t, "[]", class(0, 0), end(1))
	check(t, "[^]", class(1, 0), end(2))
	check(t, "[]a", class(0, 0), end(1), char('a', 2))
	check(t, "[]]", class(0, 0), end(1), char(']', 2))
	check(t, "[^]]", class(1, 0), end(2), char(']', 3))
	check(t, "[]-a]", class(0, 0), end(1), char('-', 2), char('a', 3), char(']', 4))
	check(t, "[][]", class(0, 0), end(1), class(0, 2), end(3))
	check(t, "]}-", char(']', 0), char('}', 1), char('-', 2))
	check(t, "a-z", char('a', 0), char('-', 1), char('z', 2))
	check(t, "z-a/", char('z', 0), char('-', 1), char('a', 2), char('/', 3))
}

// P15.1: each sign in a class, but ] and \, is a character; so are digits, letters, and numbers that are no characters.
func TestSignsInClass(t *testing.T) {
	for _, c := range slices.Concat(sample.Chars(allSigns), sample.Chars("a09,:dntwsDWS \n"), none, others) {
		if c == ']' || c == '\\' {
			continue
		}
		checkList(t, []int{'[', 'x', c, ']'}, []api.Token{class(0, 0), char('x', 1), char(c, 2), end(3)}, 0, api.OK)
		checkList(t, []int{'[', '^', c, ']', c}[:4], []api.Token{class(1, 0), char(c, 2), end(3)}, 0, api.OK)
		if c != '^' {
			checkList(t, []int{'[', c, 'x', ']'}, []api.Token{class(0, 0), char(c, 1), char('x', 2), end(3)}, 0, api.OK)
		}
	}
	check(t, "[.()|^$?*+{}[/]", class(0, 0), char('.', 1), char('(', 2), char(')', 3), char('|', 4), char('^', 5), char('$', 6), char('?', 7), char('*', 8), char('+', 9), char('{', 10), char('}', 11), char('[', 12), char('/', 13), end(14))
	check(t, "[{2,3}]", class(0, 0), char('{', 1), char('2', 2), char(',', 3), char('3', 4), char('}', 5), end(6))
	check(t, "[{}{99}{,]", class(0, 0), char('{', 1), char('}', 2), char('{', 3), char('9', 4), char('9', 5), char('}', 6), char('{', 7), char(',', 8), end(9))
	check(t, "[a*?]", class(0, 0), char('a', 1), char('*', 2), char('?', 3), end(4))
	check(t, "[[a]]", class(0, 0), char('[', 1), char('a', 2), end(3), char(']', 4))
}

// P15.1: ranges of characters and of escapes of one, Low below High, and at it.
func TestRanges(t *testing.T) {
	check(t, "[a-z]", class(0, 0), span('a', 'z', 1), end(4))
	check(t, "[^a-z]", class(1, 0), span('a', 'z', 2), end(5))
	check(t, "[a-a]", class(0, 0), span('a', 'a', 1), end(4))
	check(t, "[a-b]", class(0, 0), span('a', 'b', 1), end(4))
	check(t, "[0-9a-fA-F]", class(0, 0), span('0', '9', 1), span('a', 'f', 4), span('A', 'F', 7), end(10))
	check(t, `[\.-/]`, class(0, 0), span('.', '/', 1), end(5))
	check(t, `[.-\/]`, class(0, 0), span('.', '/', 1), end(5))
	check(t, `[\.-\/]`, class(0, 0), span('.', '/', 1), end(6))
	check(t, `[\t-\n]`, class(0, 0), span(0x9, 0xa, 1), end(6))
	check(t, `[\n-n]`, class(0, 0), span(0xa, 'n', 1), end(5))
	check(t, `[\n-\n]`, class(0, 0), span(0xa, 0xa, 1), end(6))
	check(t, `[A-\]]`, class(0, 0), span('A', ']', 1), end(5))
	check(t, `[\]-a]`, class(0, 0), span(']', 'a', 1), end(5))
	check(t, `[\\-a]`, class(0, 0), span('\\', 'a', 1), end(5))
	check(t, `[\[-\\]`, class(0, 0), span('[', '\\', 1), end(6))
	check(t, "[A-[]", class(0, 0), span('A', '[', 1), end(4))
	check(t, "[[-a]", class(0, 0), span('[', 'a', 1), end(4))
	check(t, "[A-^]", class(0, 0), span('A', '^', 1), end(4))
	check(t, "[a^-b]", class(0, 0), char('a', 1), span('^', 'b', 2), end(5))
	check(t, "[^^-b]", class(1, 0), span('^', 'b', 2), end(5))
	check(t, "[a{-}]", class(0, 0), char('a', 1), span('{', '}', 2), end(5))
	checkList(t, []int{'[', 0x5d0, '-', 0x5ea, ']'}, []api.Token{class(0, 0), span(0x5d0, 0x5ea, 1), end(4)}, 0, api.OK)
	checkList(t, []int{'[', 'a', '-', 0x10ffff, ']'}, []api.Token{class(0, 0), span('a', 0x10ffff, 1), end(4)}, 0, api.OK)
}

// P15.1: - at a class's beginning, at its end, behind a range, behind a group, ahead of one and as a range's end.
func TestDash(t *testing.T) {
	check(t, "[-]", class(0, 0), char('-', 1), end(2))
	check(t, "[^-]", class(1, 0), char('-', 2), end(3))
	check(t, "[--]", class(0, 0), char('-', 1), char('-', 2), end(3))
	check(t, "[---]", class(0, 0), span('-', '-', 1), end(4))
	check(t, "[----]", class(0, 0), span('-', '-', 1), char('-', 4), end(5))
	check(t, "[-a]", class(0, 0), char('-', 1), char('a', 2), end(3))
	check(t, "[^-a]", class(1, 0), char('-', 2), char('a', 3), end(4))
	check(t, "[a-]", class(0, 0), char('a', 1), char('-', 2), end(3))
	check(t, `[\n-]`, class(0, 0), char(0xa, 1), char('-', 3), end(4))
	check(t, "[-a-]", class(0, 0), char('-', 1), char('a', 2), char('-', 3), end(4))
	check(t, "[--a]", class(0, 0), span('-', 'a', 1), end(4))
	check(t, "[^--a]", class(1, 0), span('-', 'a', 2), end(5))
	check(t, "[+--]", class(0, 0), span('+', '-', 1), end(4))
	check(t, `[+-\-]`, class(0, 0), span('+', '-', 1), end(5))
	check(t, `[\--a]`, class(0, 0), span('-', 'a', 1), end(5))
	check(t, `[a\-z]`, class(0, 0), char('a', 1), char('-', 2), char('z', 4), end(5))
	check(t, "[a-c-e]", class(0, 0), span('a', 'c', 1), char('-', 4), char('e', 5), end(6))
	check(t, "[a-c-]", class(0, 0), span('a', 'c', 1), char('-', 4), end(5))
	check(t, "[a-c--e]", class(0, 0), span('a', 'c', 1), span('-', 'e', 4), end(7))
	check(t, "[a-cd-e]", class(0, 0), span('a', 'c', 1), span('d', 'e', 4), end(7))
	check(t, `[\d-z]`, class(0, 0), group('d', 1), char('-', 3), char('z', 4), end(5))
	check(t, `[\d-]`, class(0, 0), group('d', 1), char('-', 3), end(4))
	check(t, `[\W--z]`, class(0, 0), group('W', 1), span('-', 'z', 3), end(6))
	check(t, `[\d-\w]`, class(0, 0), group('d', 1), char('-', 3), group('w', 4), end(6))
	check(t, `[-\d]`, class(0, 0), char('-', 1), group('d', 2), end(4))
	check(t, `[a\d-z-]`, class(0, 0), char('a', 1), group('d', 2), char('-', 4), char('z', 5), char('-', 6), end(7))
}

// P15.1: ranges of numbers that are no characters, by their size.
func TestRangesOfAnyNumbers(t *testing.T) {
	all := slices.Concat(none, others, sample.Chars("-a"))
	for _, low := range all {
		for _, high := range all {
			l := []int{'x', '[', low, '-', high, ']'}
			if low <= high {
				checkList(t, l, []api.Token{char('x', 0), class(0, 1), span(low, high, 2), end(5)}, 0, api.OK)
			} else {
				checkList(t, l, nil, 2, api.ErrRange)
			}
		}
	}
}

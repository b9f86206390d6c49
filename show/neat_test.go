package show_test

import (
	"math"
	"slices"
	"strings"
	"testing"

	"ductus/api"
	"ductus/sample"
	"ductus/show"
	"ductus/tree"
)

// checkList: Neat of a pattern; beside an error there is no pattern, beside none the place is 0.
func checkList(t *testing.T, l []int, flags int, want []int, at int, e api.Errno) {
	t.Helper()
	got, place, told := show.Neat(l, flags)
	if place != at || told != e || !slices.Equal(got, want) {
		t.Errorf("Neat of %s by %d: %s, %d, error %d; not %s, %d, error %d", sample.Quoted(l), flags, sample.Quoted(got), place, told, sample.Quoted(want), at, e)
	}
}

// checkNeat: a pattern's neat one, told in full; FlagAll doesn't change it.
func checkNeat(t *testing.T, pattern, want string) {
	t.Helper()
	checkList(t, sample.Chars(pattern), 0, sample.Chars(want), 0, api.OK)
	checkList(t, sample.Chars(pattern), 4, sample.Chars(want), 0, api.OK)
}

// checkFault: a pattern that is wrong, by all flags.
func checkFault(t *testing.T, pattern string, at int, e api.Errno) {
	t.Helper()
	for flags := range 8 {
		checkList(t, sample.Chars(pattern), flags, nil, at, e)
	}
}

// checkWords: Neat of a pattern is as the chapter's words say, and stays as it is when it is made neat once more, unless its groups are too deep.
func checkWords(t *testing.T, l []int, flags int) {
	t.Helper()
	want, at, e := neatOf(l, flags)
	checkList(t, l, flags, want, at, e)
	if e == api.OK {
		n, _, _ := tree.Parse(l, flags)
		again(t, n, want)
	}
	if t.Failed() {
		t.FailNow()
	}
}

// P17.1: the chapter's example, and no pattern.
func TestNeat(t *testing.T) {
	checkNeat(t, "[ab]{0,}", "[a-b]*")
	checkNeat(t, "", "()")
	checkList(t, nil, 0, sample.Chars("()"), 0, api.OK)
	checkList(t, []int{}, 7, sample.Chars("()"), 0, api.OK)
	for pattern, want := range map[string]string{
		"a": "a", "(a)": "a", "((a))": "a", "()": "()", "(())": "()", "()()": "()()", "(a)(b)": "ab", "(ab)c": "(ab)c", "a(bc)": "a(bc)", "((ab)c)": "(ab)c", "((ab))": "ab",
		"a|b": "a|b", "(a|b)": "a|b", "(a|b)|c": "(a|b)|c", "a|(b|c)": "a|(b|c)", "|": "()|()", "a||b": "a|()|b", "a|": "a|()", "(a|b)c": "(a|b)c", "a|bc": "a|bc", "(a)|(bc)": "a|bc",
		"a??": "a?", "a*?": "a*", "a+?b": "a+b", "a{2}?": "a{2}", "a{0,1}": "a?", "a{0,}": "a*", "a{1,}": "a+", "a{1}": "a{1}", "a{1,1}": "a{1}", "a{0}": "a{0}", "a{0,0}": "a{0}", "a{2,}": "a{2,}", "a{2,2}": "a{2}", "a{2,3}": "a{2,3}", "a{0,20}": "a{0,20}", "a{20,20}?": "a{20}",
		"(a)*": "a*", "(ab)*": "(ab)*", "(a*)*": "(a*)*", "((a*))+": "(a*)+", "(a|b)?": "(a|b)?", "()*": "()*", "(|)+": "(()|())+",
		"^": "^", "$": "$", "^a$": "^a$", "^*": "^*", "(^)(a)($)": "^a$",
		"[]": "[]", "[a]": "a", "[aa]": "a", "[ab]": "[a-b]", "[ba]": "[a-b]", "[ac]": "[ac]", "[a-a]": "a", "[a-cb-d]": "[a-d]", "[-]": `\-`, "[.]": `\.`, `[\]\-\^x]`: `[\-\]-\^x]`, "[^\x00-`b-\U0010ffff]": "a",
		`\.`: `\.`, ".": "[\x00-\t\v-\U0010ffff]", `\n`: "\n", `\t`: "\t", `\d`: "[0-9]", `[\d]`: "[0-9]", `\D`: "[\x00-\\/:-\U0010ffff]", "]": `\]`, "}": `\}`, "-": `\-`, "/": `\/`, `\/`: `\/`,
		"[^a]": "[\x00-`b-\U0010ffff]", "[^]": "[\x00-\U0010ffff]",
	} {
		if pattern == "." {
			checkList(t, sample.Chars("."), 0, sample.Chars(want), 0, api.OK)
			checkList(t, sample.Chars("."), 4, sample.Chars("[\x00-\U0010ffff]"), 0, api.OK)
			continue
		}
		checkNeat(t, pattern, want)
	}
}

// P17.1: by each flag, and several.
func TestNeatByFlags(t *testing.T) {
	for flags, want := range []string{"a<", "[Aa]<", "a[<>]", "[Aa][<>]"} {
		checkList(t, sample.Chars("a<"), flags, sample.Chars(want), 0, api.OK)
		checkList(t, sample.Chars("a<"), flags+4, sample.Chars(want), 0, api.OK)
	}
	for flags, want := range []string{`\(*`, `\(*`, `[\(-\)]*`, `[\(-\)]*`} {
		checkList(t, sample.Chars(`\(*`), flags, sample.Chars(want), 0, api.OK)
	}
	for flags, want := range []string{"\u00b5|k", "[\u00b5\u039c\u03bc]|[Kk]"} {
		checkList(t, sample.Chars("\u00b5|k"), flags, sample.Chars(want), 0, api.OK)
	}
	for _, flags := range []int{-1, 8, 9, 16, -8, 1 << 32, 1<<32 + 1, math.MaxInt, math.MinInt} {
		for _, pattern := range []string{"", "a", "a(", "*", "[", strings.Repeat("a", 201)} {
			checkList(t, sample.Chars(pattern), flags, nil, 0, api.ErrFlag)
		}
	}
}

// P17.1: at each error of layers 15 and 16 its place and error.
func TestNeatOfFaults(t *testing.T) {
	checkFault(t, strings.Repeat("a", 201), 0, api.ErrSize)
	checkFault(t, strings.Repeat("*", 201), 0, api.ErrSize)
	checkFault(t, `ab\`, 3, api.ErrEnd)
	checkFault(t, "ab[c", 4, api.ErrEnd)
	checkFault(t, "a{2", 3, api.ErrEnd)
	checkFault(t, `a\b`, 1, api.ErrEscape)
	checkFault(t, "a{21}", 1, api.ErrCount)
	checkFault(t, "a{3,2}", 1, api.ErrCount)
	checkFault(t, "[b-a]", 1, api.ErrRange)
	checkFault(t, `[^b-\t]`, 2, api.ErrRange)
	checkFault(t, `[a-\d]`, 3, api.ErrRange)
	checkFault(t, "ab)", 2, api.ErrSign)
	checkFault(t, "*", 0, api.ErrSign)
	checkFault(t, "a|?", 2, api.ErrSign)
	checkFault(t, "a(+)", 2, api.ErrSign)
	checkFault(t, "a**", 2, api.ErrSign)
	checkFault(t, "a(", 2, api.ErrEnd)
	checkFault(t, "((a)", 4, api.ErrEnd)
	checkFault(t, strings.Repeat("(", 21)+strings.Repeat(")", 21), 20, api.ErrDeep)
	checkFault(t, "(a{20}){20}", 0, api.ErrSize)
	checkFault(t, "((a{2}){20}){20}b", 0, api.ErrSize)
}

// P17.1: where what is shown is too long the error is ErrSize, at 0; where a tree has more ranges than may be shown it is ErrArg, at 0.
func TestNeatOfLongOnes(t *testing.T) {
	checkList(t, sample.Chars(strings.Repeat(`\d`, 40)), 0, sample.Chars(strings.Repeat("[0-9]", 40)), 0, api.OK)
	checkFault(t, strings.Repeat(`\d`, 41), 0, api.ErrSize)
	checkFault(t, strings.Repeat(`\d`, 100), 0, api.ErrSize)
	checkList(t, sample.Chars(strings.Repeat("a", 200)), 0, sample.Chars(strings.Repeat("a", 200)), 0, api.OK)
	checkList(t, sample.Chars(strings.Repeat("a", 50)), 1, sample.Chars(strings.Repeat("[Aa]", 50)), 0, api.OK)
	checkList(t, sample.Chars(strings.Repeat("a", 51)), 1, nil, 0, api.ErrSize)
	checkList(t, sample.Chars(strings.Repeat("a", 51)), 2, sample.Chars(strings.Repeat("a", 51)), 0, api.OK)
	checkList(t, sample.Chars(strings.Repeat("-", 100)), 0, sample.Chars(strings.Repeat(`\-`, 100)), 0, api.OK)
	checkFault(t, strings.Repeat("-", 101), 0, api.ErrSize)
	checkList(t, sample.Chars(strings.Repeat("|", 66)), 0, sample.Chars("()"+strings.Repeat("|()", 66)), 0, api.OK)
	checkFault(t, strings.Repeat("|", 67), 0, api.ErrSize)
	// 11 ranges each.
	for _, flags := range []int{0, 2, 4} {
		checkList(t, sample.Chars(strings.Repeat(`\w`, 6)), flags, slices.Repeat(sample.Chars("[0-9A-Z_a-z\u00c0-\u00d6\u00d8-\u00f6\u00f8-\u024f\u0370-\u04ff\u05d0-\u05ea\u0620-\u064a\u0660-\u0669]"), 6), 0, api.OK)
		checkList(t, sample.Chars(strings.Repeat(`\w`, 7)), flags, nil, 0, api.ErrSize)
		checkList(t, sample.Chars(strings.Repeat(`\w`, 36)+"aaaa"), flags, nil, 0, api.ErrSize)
		checkList(t, sample.Chars(strings.Repeat(`\w`, 36)+"aaaaa"), flags, nil, 0, api.ErrArg)
		checkList(t, sample.Chars(strings.Repeat(`\w`, 37)), flags, nil, 0, api.ErrArg)
		checkList(t, sample.Chars(strings.Repeat(`\w`, 100)), flags, nil, 0, api.ErrArg)
	}
	for _, many := range []int{0, 1, 2, 5, 6, 7, 33, 34, 36, 37, 100} {
		for flags := range 8 {
			checkWords(t, sample.Chars(strings.Repeat(`\W`, many)), flags)
		}
	}
}

// checkShort: each pattern of up to so many of some characters; the flags go round.
func checkShort(t *testing.T, of string, most int) {
	t.Helper()
	flags := 0
	for l := range sample.Every(sample.Chars(of), most) {
		checkWords(t, l, flags)
		flags = (flags + 3) % 8
	}
}

// P17.1 and P17.2: every short pattern of signs that mean something; what is neat stays as it is.
func TestShort(t *testing.T) {
	checkShort(t, "a(|)*", 6)
	checkShort(t, "b(^)+|$", 5)
	checkShort(t, `.^$(|)+?[]a\d{2},-`, 3)
	checkShort(t, "ab(){2}", 5)
	checkShort(t, `[]^-ac\<`, 5)
	for flags := -1; flags <= 8; flags++ {
		for l := range sample.Every(sample.Chars("a(|)*[]<"), 3) {
			checkWords(t, l, flags)
		}
	}
}

// pieces: right parts of patterns, and such that are wrong there, or may be.
var pieces = []string{"a", "B", "<", ".", "(", ")", "(", ")", "|", "^", "$", "(a)", "(b|c)", "()", "*", "+?", "{2}", "{0,}?", "{1,3}", `\d`, `\W`, `\n`, `\*`, "[]", "[^]", "[a-f]", "[^b-d<]", `[\Sx]`, "\u05d0", "[\u03a3\u2264]", "a*", "b?", "\\d{2,3}", "a|b", "(ab)+", "[-]", "]"}

// rights: parts that are right wherever they stand behind one another.
var rights = []string{"a", "B<", "^", "$", "(a)", "(b|c)*", "()", `\d?`, "[]{2}", "[a-f]+", "\u05d0", "[ab]", "a*?", "|", "((a|)|b)", "((ab){2}c){0,3}?", "(|(|))", "(^|$)", "x{0}", "x{1,1}", "(a*)*", `\.`, "-", "[+-]"}

// P17.1 and P17.2: mixed patterns, by all flags from -1 to 8.
func TestMixed(t *testing.T) {
	flags := 0
	for l := range sample.Patterns(pieces, 12000, 9) {
		checkWords(t, l, flags)
		flags = (flags + 1) % 8
	}
	for l := range sample.Patterns(pieces, 500, 40) {
		for flags := -1; flags <= 8; flags++ {
			checkWords(t, l, flags)
		}
	}
	neat, long := 0, 0
	for l := range sample.Patterns(rights, 3000, 60) {
		checkWords(t, l, flags)
		switch _, _, e := show.Neat(l, flags); e {
		case api.OK:
			neat++
		case api.ErrSize:
			long++
		}
		flags = (flags + 1) % 8
	}
	if neat < 1000 || long < 500 {
		t.Errorf("%d are neat, %d too long", neat, long)
	}
}

// P17.1: a right pattern that is cut off, or has another character at one place.
func TestOneOther(t *testing.T) {
	whole := sample.Chars(`(a|()|^b*?){2}[^\d-c(]$((.x)+|[]?)\n{1,}`)
	checkWords(t, whole, 0)
	for i := range whole {
		checkWords(t, whole[:i], 1)
		checkWords(t, whole[i:], 2)
		checkWords(t, slices.Delete(slices.Clone(whole), i, i+1), 3)
		for _, c := range slices.Concat(sample.Chars(`.()^$?*+{}[]-/\|a0,dn`), []int{-1, 0x5d0, 1<<32 + '('}) {
			l := slices.Clone(whole)
			l[i] = c
			checkWords(t, l, i%8)
		}
	}
}

// P17.1: numbers that are no characters, in a pattern: their set has none.
func TestNoCharacters(t *testing.T) {
	for _, c := range []int{-1, math.MinInt, api.Top + 1, 1<<32 + 'a', 1<<32 + '(', -1<<32 + '|', math.MaxInt} {
		for flags := range 8 {
			checkList(t, []int{c}, flags, sample.Chars("[]"), 0, api.OK)
			checkList(t, []int{'1', c, '*'}, flags, sample.Chars("1[]*"), 0, api.OK)
			checkList(t, []int{'[', c, '5', ']'}, flags, sample.Chars("5"), 0, api.OK)
			checkWords(t, []int{'[', '^', c, ']'}, flags)
			checkWords(t, []int{'(', c, '|', c, ')'}, flags)
		}
	}
}

package tree_test

import (
	"slices"
	"testing"

	"ductus/api"
	"ductus/sample"
	"ductus/tree"
)

// checkShort: each pattern of a beginning, and up to so many of some characters behind it, by the chapter's words; the flags go round.
func checkShort(t *testing.T, ahead, of string, most int) {
	t.Helper()
	flags := 0
	for l := range sample.Every(sample.Chars(of), most) {
		checkOracle(t, append(sample.Chars(ahead), l...), flags)
		flags = (flags + 3) % 8
	}
}

// P16.1: all short patterns of signs that mean something.
func TestShort(t *testing.T) {
	checkShort(t, "", "a(|)*", 6)
	checkShort(t, "", "b()?|", 6)
	checkShort(t, "", `.^$(|)+?[]a\d{2},-`, 3)
	checkShort(t, "", "()a{2}", 5)
	checkShort(t, "(a", ")(|*?b", 5)
	checkShort(t, "a|(", ")(|*?b", 5)
	checkShort(t, "a*", ")(|*?b+", 5)
	checkShort(t, "^(", ")$|*?^", 5)
}

// P16.1: all short classes.
func TestShortClasses(t *testing.T) {
	checkShort(t, "[", `]^-\aBd(`, 4)
	checkShort(t, "[^", `]-\SaB<`, 4)
	checkShort(t, "([", `])*b|-`, 5)
	for flags := range 8 {
		for l := range sample.Every(sample.Chars("aZ(<\u00b5\u03c3"), 3) {
			checkOracle(t, slices.Concat([]int{'['}, l, []int{']', '+'}), flags)
			checkOracle(t, slices.Concat([]int{'[', '^'}, l, []int{']'}), flags)
		}
	}
}

// P16.1: ranges of characters that flags change, turned round and not, by all flags.
func TestRangesByFlags(t *testing.T) {
	var ends []int
	for i := 0; i < len(changed); i += 23 {
		ends = append(ends, changed[i])
	}
	ends = append(ends, 1, '_', 0x3011, 0x4000, api.Top)
	slices.Sort(ends)
	for i, low := range ends {
		for _, high := range ends[i:] {
			for flags := range 8 {
				checkOracle(t, []int{'[', '\\', '\\', low, '-', high, ']'}, flags)
				checkOracle(t, []int{'[', '^', low, '-', high, '\\', 'W', ']'}, flags)
			}
		}
	}
}

// Right parts of patterns, and such that are wrong there, or may be.
var (
	pieces = []string{"a", "B", "<", ".", "(", ")", "(", ")", "|", "^", "$", "(a)", "(b|c)", "()", "*", "+?", "{2}", "{0,}?", "{1,3}", `\d`, `\W`, `\n`, "[]", "[^]", "[a-f]", "[^b-d<]", `[\Sx]`, "\u05d0", "[\u03a3\u2264]", "a*", "b?", "\\d{2,3}", "a|b", "(ab)+"}
	rights = []string{"a", "B<", ".", "^", "$", "(a)", "(b|c)*", "()", `\d?`, `\W`, "[]{2}", "[^]", "[a-f]+", "[^b-d<]", `[\Sx]*?`, "\u05d0", "[\u03a3\u2264]", "a*", "|", "((a|)|b)", "((ab){2}c){0,3}?", "(|(|))", "(^|$)", "x{0}"}
)

// P16.1: mixed patterns, by the chapter's words.
func TestMixed(t *testing.T) {
	flags := 0
	for l := range sample.Patterns(pieces, 20000, 9) {
		checkOracle(t, l, flags)
		flags = (flags + 1) % 8
	}
	for l := range sample.Patterns(pieces, 500, 40) {
		checkOracle(t, l, flags)
		flags = (flags + 1) % 8
	}
}

// P16.1: mixed patterns that are right, also within brackets, by the chapter's words; many of them are long.
func TestMixedThatAreRight(t *testing.T) {
	right, flags := 0, 0
	for l := range sample.Patterns(rights, 3000, 45) {
		checkOracle(t, l, flags)
		checkOracle(t, slices.Concat(sample.Chars("a(b|("), l, sample.Chars("){2})+?")), flags)
		if _, _, e := tree.Parse(l, flags); e == api.OK && len(l) > 60 {
			right++
		}
		flags = (flags + 1) % 8
	}
	if right < 800 {
		t.Errorf("only %d long ones are right", right)
	}
}

// P16.1: a right pattern that is cut off, or has another character at one place, by the chapter's words.
func TestOneOther(t *testing.T) {
	whole := sample.Chars(`(a|()|^b*?){2}[^\Wa-c(]$((.x)+|[]?)\n{1,}`)
	checkOracle(t, whole, 0)
	if _, _, e := tree.Parse(whole, 0); e != api.OK {
		t.Errorf("%s is wrong: error %d", sample.Quoted(whole), e)
	}
	for i := range whole {
		checkOracle(t, whole[:i], 1)
		checkOracle(t, whole[i:], 2)
		checkOracle(t, slices.Delete(slices.Clone(whole), i, i+1), 3)
		for _, c := range slices.Concat(sample.Chars(`.()^$?*+{}[]-/\|a0,dn`), []int{-1, 0x5d0, 1<<32 + '('}) {
			l := slices.Clone(whole)
			l[i] = c
			checkOracle(t, l, i%8)
			checkOracle(t, slices.Insert(slices.Clone(whole), i, c), i%8)
		}
	}
}

// P16.1: mixed characters, and numbers that are none, by the chapter's words.
func TestMixedCharacters(t *testing.T) {
	flags := 0
	for l := range sample.MixedOf(slices.Concat(sample.Chars(`.()()^$?*+|||aab[]-\dWn{2}0,`), []int{0x5d0, -1, api.Top, api.Top + 1, 1<<32 + '(', 0x3c2, '<'}), 20000, 12) {
		checkOracle(t, l, flags)
		flags = (flags + 1) % 8
	}
}

// P16.1: a tree that is parsed has the kinds that the chapter tells, and is at most as great as it may be.
func TestTreesAreRight(t *testing.T) {
	for l := range sample.Patterns(rights, 1000, 30) {
		n, _, e := tree.Parse(l, 3)
		if e != api.OK {
			continue
		}
		if size := tree.Size(n); size > 400 {
			t.Errorf("Parse of %s: size %d", sample.Quoted(l), size)
		}
		for _, node := range sample.Nodes(&n) {
			several := node.Kind == 3 || node.Kind == 4
			if node.Kind < 1 || node.Kind > 7 || several && len(node.Kids) < 2 || node.Kind == 5 && len(node.Kids) != 1 || !several && node.Kind != 5 && len(node.Kids) > 0 || node.Kind != 2 && len(node.Ranges) > 0 || node.Kind != 5 && (node.Low != 0 || node.High != 0) {
				t.Errorf("Parse of %s: %s", sample.Quoted(l), sample.ShowTree(n))
			}
			checkLeast(t, node.Ranges)
		}
	}
}

package tree_test

import (
	"strings"
	"testing"

	"ductus/api"
	"ductus/sample"
	"ductus/tree"
)

// checkBy: a pattern's set, by some flags.
func checkBy(t *testing.T, pattern string, want []api.Range, flags ...int) {
	t.Helper()
	for _, f := range flags {
		checkList(t, sample.Chars(pattern), f, api.Node{Kind: 2, Ranges: want}, 0, api.OK)
	}
}

// checkAll: by all flags.
func checkAll(t *testing.T, pattern string, want []api.Range) {
	t.Helper()
	checkBy(t, pattern, want, 0, 1, 2, 3, 4, 5, 6, 7)
}

// P16.1: classes with none of its parts, one, several that touch or lie within one another, turned round and not.
func TestClasses(t *testing.T) {
	checkAll(t, "[]", nil)
	checkAll(t, "[^]", between(0, api.Top))
	checkAll(t, "[5]", between('5', '5'))
	checkAll(t, "[^5]", between(0, '4', '6', api.Top))
	checkAll(t, "[3-7]", between('3', '7'))
	checkAll(t, "[^3-7]", between(0, '2', '8', api.Top))
	checkAll(t, "[12]", between('1', '2'))
	checkAll(t, "[21]", between('1', '2'))
	checkAll(t, "[11]", between('1', '1'))
	checkAll(t, "[13]", between('1', '1', '3', '3'))
	checkAll(t, "[31]", between('1', '1', '3', '3'))
	checkAll(t, "[132]", between('1', '3'))
	checkAll(t, "[1-34-6]", between('1', '6'))
	checkAll(t, "[4-61-3]", between('1', '6'))
	checkAll(t, "[1-46-8]", between('1', '4', '6', '8'))
	checkAll(t, "[6-81-4]", between('1', '4', '6', '8'))
	checkAll(t, "[1-93-4]", between('1', '9'))
	checkAll(t, "[3-41-9]", between('1', '9'))
	checkAll(t, "[1-53-8]", between('1', '8'))
	checkAll(t, "[^1-53-8]", between(0, '0', '9', api.Top))
	checkAll(t, "[^1-24-5]", between(0, '0', '3', '3', '6', api.Top))
	checkAll(t, `[\n\t]`, between(0x9, 0xa))
	checkAll(t, `[^\n]`, between(0, 0x9, 0xb, api.Top))
	checkAll(t, `[\t-\n.]`, between(0x9, 0xa, '.', '.'))
	checkAll(t, "[^^]", between(0, '^'-1, '^'+1, api.Top))
	checkAll(t, "[5^]", between('5', '5', '^', '^'))
	checkAll(t, "[.$?*+|]", between('$', '$', '*', '+', '.', '.', '?', '?', '|', '|'))
	checkAll(t, "[-/]", between('-', '-', '/', '/'))
	checkAll(t, "[\u05d0-\u05ea]", between(0x5d0, 0x5ea))
	checkAll(t, "[^\x00-\U0010ffff]", nil)
	checkAll(t, "[^\x01-\U0010fffe]", between(0, 0, api.Top, api.Top))
	checkAll(t, "[\U0010ffff\x00]", between(0, 0, api.Top, api.Top))
	checkAll(t, "[^\x00]", between(1, api.Top))
	checkAll(t, "[^\U0010ffff]", between(0, api.Top-1))
}

// P16.1: each group, outside of a class and in it, turned round and not, without flags.
func TestGroups(t *testing.T) {
	for letter, l := range map[string][]api.Range{"d": digit, "s": space, "w": words} {
		great := strings.ToUpper(letter)
		in, out := rangesOf(inOf(l), edgesOf(l)), rangesOf(turnOf(inOf(l)), edgesOf(l))
		for _, flags := range []int{0, 4} {
			for _, x := range []struct {
				pattern string
				want    []api.Range
			}{{`\#`, in}, {`[\#]`, in}, {`[\#\#]`, in}, {`[^\#]`, out}, {`\@`, out}, {`[\@]`, out}, {`[^\@]`, in}, {`[\#\@]`, between(0, api.Top)}, {`[^\#\@]`, nil}, {`[\@\#]`, between(0, api.Top)}, {`(\#)`, in}} {
				checkBy(t, strings.NewReplacer("#", letter, "@", great).Replace(x.pattern), x.want, flags)
			}
		}
	}
	checkAll(t, `\d`, between('0', '9'))
	checkAll(t, `\D`, between(0, '0'-1, '9'+1, api.Top))
	checkAll(t, `\s`, between(0x9, 0xd, 0x20, 0x20, 0x85, 0x85, 0xa0, 0xa0, 0x2028, 0x2029))
	checkAll(t, `\S`, between(0, 8, 0xe, 0x1f, 0x21, 0x84, 0x86, 0x9f, 0xa1, 0x2027, 0x202a, api.Top))
	checkBy(t, `\w`, between(0x30, 0x39, 0x41, 0x5a, 0x5f, 0x5f, 0x61, 0x7a, 0xc0, 0xd6, 0xd8, 0xf6, 0xf8, 0x24f, 0x370, 0x4ff, 0x5d0, 0x5ea, 0x620, 0x64a, 0x660, 0x669), 0, 2, 4, 6)
	checkBy(t, `\W`, between(0, 0x2f, 0x3a, 0x40, 0x5b, 0x5e, 0x60, 0x60, 0x7b, 0xbf, 0xd7, 0xd7, 0xf7, 0xf7, 0x250, 0x36f, 0x500, 0x5cf, 0x5eb, 0x61f, 0x64b, 0x65f, 0x66a, api.Top), 0, 2, 4, 6)
	checkAll(t, `[\da-fA-F]`, between('0', '9', 'A', 'F', 'a', 'f'))
	checkAll(t, `[\d\s]`, between(0x9, 0xd, 0x20, 0x20, '0', '9', 0x85, 0x85, 0xa0, 0xa0, 0x2028, 0x2029))
	checkAll(t, `[^\D5]`, between('0', '4', '6', '9'))
	checkAll(t, `[\D5]`, between(0, '0'-1, '5', '5', '9'+1, api.Top))
	checkAll(t, `[\d-]`, between('-', '-', '0', '9'))
}

// P16.1: groups behind flags: what is turned round is so behind them.
func TestGroupsByFlags(t *testing.T) {
	folded := between(0x30, 0x39, 0x41, 0x5a, 0x5f, 0x5f, 0x61, 0x7a, 0xb5, 0xb5, 0xc0, 0xd6, 0xd8, 0xf6, 0xf8, 0x24f, 0x370, 0x4ff, 0x5d0, 0x5ea, 0x620, 0x64a, 0x660, 0x669, 0x1e9e, 0x1e9e)
	others := between(0, 0x2f, 0x3a, 0x40, 0x5b, 0x5e, 0x60, 0x60, 0x7b, 0xb4, 0xb6, 0xbf, 0xd7, 0xd7, 0xf7, 0xf7, 0x250, 0x36f, 0x500, 0x5cf, 0x5eb, 0x61f, 0x64b, 0x65f, 0x66a, 0x1e9d, 0x1e9f, api.Top)
	for _, pattern := range []string{`\w`, `[\w]`, `[^\W]`, `[\wa]`, `[\w\w]`, `[\w\d]`} {
		checkBy(t, pattern, folded, 1, 3, 5, 7)
	}
	for _, pattern := range []string{`\W`, `[\W]`, `[^\w]`, `[\W\W]`, `[^a\w]`} {
		checkBy(t, pattern, others, 1, 3, 5, 7)
	}
	checkAll(t, `[\w\W]`, between(0, api.Top))
	checkAll(t, `[^\w\W]`, nil)
	checkBy(t, "[^\\W\u00b5\u1e9e]", rangesOf(inOf(words), edgesOf(words)), 0, 2, 4, 6)
	checkBy(t, "[^\\W\u00b5]", between(0x30, 0x39, 0x41, 0x5a, 0x5f, 0x5f, 0x61, 0x7a, 0xc0, 0xd6, 0xd8, 0xf6, 0xf8, 0x24f, 0x370, 0x39b, 0x39d, 0x3bb, 0x3bd, 0x4ff, 0x5d0, 0x5ea, 0x620, 0x64a, 0x660, 0x669, 0x1e9e, 0x1e9e), 1, 3, 5, 7)
}

// P16.1: great ones and small ones, and what is mirrored, turned round and with flags.
func TestSetsByFlags(t *testing.T) {
	plain, fold, mirror, both := []int{0, 4}, []int{1, 5}, []int{2, 6}, []int{3, 7}
	withFold, withMirror := []int{1, 3, 5, 7}, []int{2, 3, 6, 7}
	noFold, noMirror := []int{0, 2, 4, 6}, []int{0, 1, 4, 5}
	for _, pattern := range []string{"a", "[a]", "[aa]", "(a)"} {
		checkBy(t, pattern, between('a', 'a'), noFold...)
		checkBy(t, pattern, between('A', 'A', 'a', 'a'), withFold...)
	}
	for _, pattern := range []string{"A", "[A]"} {
		checkBy(t, pattern, between('A', 'A'), noFold...)
		checkBy(t, pattern, between('A', 'A', 'a', 'a'), withFold...)
	}
	checkAll(t, "[aA]", between('A', 'A', 'a', 'a'))
	checkBy(t, "[^a]", between(0, 'a'-1, 'b', api.Top), noFold...)
	checkBy(t, "[^a]", between(0, '@', 'B', '`', 'b', api.Top), withFold...)
	checkBy(t, "[b-d]", between('b', 'd'), noFold...)
	checkBy(t, "[b-d]", between('B', 'D', 'b', 'd'), withFold...)
	checkBy(t, "[^b-dX]", between(0, 'W', 'Y', 'a', 'e', api.Top), noFold...)
	checkBy(t, "[^b-dX]", between(0, 'A', 'E', 'W', 'Y', 'a', 'e', 'w', 'y', api.Top), withFold...)
	for _, pattern := range []string{"\u00b5", "\u039c", "\u03bc", "[\u00b5]", "[\u03bc\u039c]"} {
		checkBy(t, pattern, between(0xb5, 0xb5, 0x39c, 0x39c, 0x3bc, 0x3bc), withFold...)
	}
	checkBy(t, "\u03c2", between(0x3a3, 0x3a3, 0x3c2, 0x3c3), withFold...)
	checkBy(t, "\u03c2", between(0x3c2, 0x3c2), noFold...)
	checkBy(t, "\u1e9e", between(0xdf, 0xdf, 0x1e9e, 0x1e9e), withFold...)
	checkBy(t, "[^\u00df]", between(0, 0xde, 0xe0, 0x1e9d, 0x1e9f, api.Top), withFold...)
	for _, pattern := range []string{`\(`, `[(]`, `[\(]`} {
		checkBy(t, pattern, between('(', '('), noMirror...)
		checkBy(t, pattern, between('(', ')'), withMirror...)
	}
	checkBy(t, "<", between('<', '<', '>', '>'), withMirror...)
	checkBy(t, ">", between('>', '>'), noMirror...)
	checkBy(t, "[^<]", between(0, ';', '=', '=', '?', api.Top), withMirror...)
	checkBy(t, "\u2329", between(0x2329, 0x232a), withMirror...)
	checkBy(t, "\u2329", between(0x2329, 0x2329), noMirror...)
	checkBy(t, "[\u3008-\u300a]", between(0x3008, 0x300b), withMirror...)
	checkBy(t, "[\u00ab]", between(0xab, 0xab, 0xbb, 0xbb), withMirror...)
	checkBy(t, "[(a]", between('(', '(', 'a', 'a'), plain...)
	checkBy(t, "[(a]", between('(', '(', 'A', 'A', 'a', 'a'), fold...)
	checkBy(t, "[(a]", between('(', ')', 'a', 'a'), mirror...)
	checkBy(t, "[(a]", between('(', ')', 'A', 'A', 'a', 'a'), both...)
	checkBy(t, "[^(a]", between(0, '\'', '*', '@', 'B', '`', 'b', api.Top), both...)
	checkBy(t, "[Z-[]", between('Z', '['), plain...)
	checkBy(t, "[Z-[]", between('Z', '[', ']', ']', 'z', 'z'), both...)
	checkBy(t, `[\s(]`, between(0x9, 0xd, 0x20, 0x20, '(', ')', 0x85, 0x85, 0xa0, 0xa0, 0x2028, 0x2029), withMirror...)
	checkBy(t, `[\S]`, between(0, 8, 0xe, 0x1f, 0x21, 0x84, 0x86, 0x9f, 0xa1, 0x2027, 0x202a, api.Top), both...)
}

// P16.1: . without FlagAll and with it, whatever the other flags are; a class has no . but the character.
func TestAny(t *testing.T) {
	checkBy(t, ".", between(0, 0x9, 0xb, api.Top), 0, 1, 2, 3)
	checkBy(t, ".", between(0, api.Top), 4, 5, 6, 7)
	checkBy(t, "(.)", between(0, 0x9, 0xb, api.Top), 0, 1, 2, 3)
	checkAll(t, "[.]", between('.', '.'))
	checkAll(t, `\.`, between('.', '.'))
	for flags := range 8 {
		n := set(0, 0x9, 0xb, api.Top)
		if flags >= 4 {
			n = set(0, api.Top)
		}
		checkList(t, sample.Chars(".+|."), flags, either(repeat(1, -1, n), n), 0, api.OK)
	}
}

// P16.1: a class is made of as many ranges as its parts have, though they are more than a set takes.
func TestGreatClasses(t *testing.T) {
	for _, x := range []struct {
		part, turned string
	}{{`\W`, `\w`}, {`\w`, `\W`}, {`\S`, `\s`}, {`\D`, `\d`}} {
		for flags := range 8 {
			one, _, _ := tree.Parse(sample.Chars(x.part), flags)
			other, _, _ := tree.Parse(sample.Chars(x.turned), flags)
			for _, n := range []int{1, 2, 35, 60, 98} {
				checkList(t, sample.Chars("["+strings.Repeat(x.part, n)+"]"), flags, one, 0, api.OK)
				checkList(t, sample.Chars("[^"+strings.Repeat(x.part, n)+"]"), flags, other, 0, api.OK)
			}
			checkList(t, sample.Chars("["+strings.Repeat(x.part, 98)+x.turned+"]"), flags, set(0, api.Top), 0, api.OK)
		}
	}
	l := []int{'['}
	for i := range 198 {
		l = append(l, 0x4000+2*i)
	}
	for flags := range 8 {
		checkList(t, append(l[:199:199], ']'), flags, api.Node{Kind: 2, Ranges: apart(198, 0x4000)}, 0, api.OK)
	}
}

// P16.1: each character that flags change, and those beside it, outside of a class, in it, and turned round, by the chapter's words.
func TestCharactersByFlags(t *testing.T) {
	for _, c := range changed {
		for beside := c - 1; beside <= c+1; beside++ {
			for flags := range 8 {
				checkOracle(t, []int{'\\', '.', beside}, flags)
				checkOracle(t, []int{'[', '\\', '.', beside, ']'}, flags)
				checkOracle(t, []int{'[', '^', beside, '-', 0x3100, ']'}, flags)
				checkOracle(t, []int{'[', 1, '-', '\\', '.', '/', '-', beside, ']'}, flags)
			}
		}
	}
}

package token_test

import (
	"slices"
	"testing"

	"ductus/api"
	"ductus/sample"
	"ductus/token"
)

// checkShort: each pattern of a beginning, and up to so many of some characters behind it, by the chapter's words.
func checkShort(t *testing.T, ahead, of string, most int) {
	t.Helper()
	for l := range sample.Every(sample.Chars(of), most) {
		checkOracle(t, append(sample.Chars(ahead), l...))
	}
}

// P15.1: all short patterns of the characters that mean something, and of some that don't.
func TestShort(t *testing.T) {
	checkShort(t, "", allSigns+",0129andDsWtq\u05d0", 3)
	checkShort(t, "", "a?*+{1,}", 4)
	checkShort(t, "", `[]^-\ad`, 5)
	checkShort(t, "", `(.|^$)[]?`, 4)
}

// P15.1: all that may stand behind the beginning of a class, of a range and of braces.
func TestShortBehind(t *testing.T) {
	checkShort(t, "[", `]^-\abnd[`, 4)
	checkShort(t, "[^", `]^-\ab`, 4)
	checkShort(t, "[c-", `]^-\zdn`, 4)
	checkShort(t, `[\n-`, `]-\zdtq`, 3)
	checkShort(t, `[\w-`, `]-\zdtq`, 3)
	checkShort(t, "[a-c-", `]-\zd.`, 4)
	checkShort(t, "a{", `},0129a?`, 4)
	checkShort(t, "a{1", `},0129a?`, 4)
	checkShort(t, "a{2,", `},0123a?`, 4)
	checkShort(t, "a{00", `},0a`, 4)
}

// P15.1: all numbers up to 130 in braces, by the chapter's words.
func TestAllNumbers(t *testing.T) {
	for n := range 131 {
		for _, form := range []string{"{#}", "{#", "{#,}", "{#,", "{#,20}", "{#,0}", "{0,#}", "{20,#}", "{2,#", "{0#}", "{#0}", "{0,0#}", "{#,#}", "{#a}", "{1,#a}"} {
			checkOracle(t, write(form, n))
		}
	}
}

// write: a form, with a number for each #.
func write(form string, n int) []int {
	var out []int
	for _, c := range sample.Chars(form) {
		if c == '#' {
			out = append(out, digitsOf(n)...)
		} else {
			out = append(out, c)
		}
	}
	return out
}

func digitsOf(n int) []int {
	if n < 10 {
		return []int{'0' + n}
	}
	return append(digitsOf(n/10), '0'+n%10)
}

// Right tokens, and classes; and such that are wrong.
var (
	pieces = []string{"a", "b", ".", "(", ")", "|", "^", "$", "?", "*", "+", "{2}", "{0,}", "{3,20}", "?", "??", `\d`, `\W`, `\n`, `\\`, `\[`, "]", "}", "-", "1,2}", "[]", "[^]", "[a-z]", "[^^-_]", `[\d-a-]`, `[\]-\]x]`, `[--/\t-\n]`, "[[(*{99}?|$.]", "\u05d0", "[\u05d0-\u05ea\U0001f600]", "x{20}?", `\-`, `\/`}
	wrongs = []string{`\q`, "{", "{}", "{21}", "{01}", "{3,2}", "{1,", "[", "[b-a]", `[a-\d]`, `[\q]`, `[a-\1]`, `\`, "[^a-", "{99,1}", "{1,2a}"}
)

// P15.1: mixed patterns that are right, and such with a wrong piece somewhere in it, by the chapter's words.
func TestMixed(t *testing.T) {
	right := 0
	for l := range sample.Patterns(pieces, 2000, 50) {
		checkOracle(t, l)
		if _, _, e := token.Of(l); e == api.OK && len(l) > 50 {
			right++
		}
	}
	if right < 500 {
		t.Errorf("only %d long ones are right", right)
	}
	for l := range sample.Patterns(append(slices.Repeat(pieces, 3), wrongs...), 3000, 30) {
		checkOracle(t, l)
	}
}

// P15.1: mixed characters, and numbers that are none, by the chapter's words; also with what is beyond 200.
func TestMixedCharacters(t *testing.T) {
	all := slices.Concat(sample.Chars(allSigns), sample.Chars("abdwsDWSnt0123456789,"), others, none)
	for l := range sample.MixedOf(all, 3000, 20) {
		checkOracle(t, l)
		checkOracle(t, append([]int{'x', '['}, l...))
	}
	for l := range sample.MixedOf(slices.Concat(none, others, sample.Chars(`aZ,01^]-`)), 300, 210) {
		checkOracle(t, l)
		checkOracle(t, slices.Concat(l, []int{'['}, l))
	}
}

// P15.1: a right pattern that is cut off, or has another character at one place, by the chapter's words.
func TestOneWrong(t *testing.T) {
	whole := sample.Chars(`(a|\.){2,13}?[^\n-z\]a-c-][]x{0}\W$^[\d-]+{4,}`)
	checkOracle(t, whole)
	if _, _, e := token.Of(whole); e != api.OK {
		t.Errorf("%s is wrong: error %d", sample.Quoted(whole), e)
	}
	for i := range whole {
		checkOracle(t, whole[:i])
		checkOracle(t, whole[i:])
		checkOracle(t, slices.Delete(slices.Clone(whole), i, i+1))
		for _, c := range slices.Concat(sample.Chars(allSigns), sample.Chars("a09,dqn"), []int{-1, 0x5d0, 1<<32 + '['}) {
			l := slices.Clone(whole)
			l[i] = c
			checkOracle(t, l)
			checkOracle(t, slices.Insert(slices.Clone(whole), i, c))
		}
	}
}

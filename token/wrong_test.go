package token_test

import (
	"errors"
	"slices"
	"strings"
	"testing"

	"ductus/api"
	"ductus/sample"
	"ductus/token"
)

// Right patterns that end outside of a class: of what is behind them nothing is said by them.
var outer = []string{"", "a", "(", "|)", "[b]", `[^\n-z-]`, "a{2,3}?", "?", "}", "]-", `\\`, `\d`, "\u05d0"}

// inner: such that end in a class. A - behind those that end in a character would be a range's.
func inner(wrong string) []string {
	out := []string{"[", "[^", "a[", "[]b[", `[\d`, `[^-\W`, "[c-d", `(x{3}[\n-z`, `[\-+--`}
	if strings.HasPrefix(wrong, "-") {
		return out
	}
	return append(out, "a[^^", "[[", "[-", `[\n`, `(?[c-d-`, `[\\`, `[\d\-`, `[\d-`, "[{", "[]]+[\u05d0")
}

// checkBehind: what is wrong is so wherever it stands, whatever follows it; place counts from where it begins.
func checkBehind(t *testing.T, ahead []string, wrong string, place int, e api.Errno, behind ...string) {
	t.Helper()
	for _, a := range ahead {
		for _, b := range append(behind, "") {
			checkWrong(t, a+wrong+b, len(sample.Chars(a))+place, e)
		}
	}
}

// What stands behind something that is wrong already: nothing in it counts any more.
var later = []string{"a", "]", "]b", `\q`, `]\q`, "[b-a]", "]{99}", "]{", `]\`, "[", "-", "}"}

// P15.1: more than 200 characters, whatever else they are; 200 that are wrong are told so.
func TestTooMany(t *testing.T) {
	for _, text := range []string{"a", "(", "[", "{", `\`, `\q`, "?", "{99}", "[b-a]", "\u05d0", "[a-z]", `\d`} {
		l := sample.Chars(strings.Repeat(text, 201))
		checkList(t, l[:201], nil, 0, api.ErrSize)
		checkList(t, l, nil, 0, api.ErrSize)
		checkOracle(t, l[:200])
	}
	much := strings.Repeat("a", 199)
	for _, last := range []string{`\`, "{", "["} {
		checkWrong(t, much+last, 200, api.ErrEnd)
		checkWrong(t, much+last+"a", 0, api.ErrSize)
		checkWrong(t, "a"+much+last, 0, api.ErrSize)
	}
	checkWrong(t, much[:198]+`\q`, 198, api.ErrEscape)
	checkWrong(t, much+`\q`, 0, api.ErrSize)
	for _, n := range []int{202, 256, 257, 400, 1 << 16, 1 << 20} {
		checkList(t, make([]int, n), nil, 0, api.ErrSize)
	}
	for _, c := range none {
		checkList(t, slices.Repeat([]int{c}, 201), nil, 0, api.ErrSize)
	}
}

// P15.1: the pattern ends behind \, in a class, or in braces.
func TestEnd(t *testing.T) {
	for _, wrong := range []string{`\`, "{", "{1", "{20", "{1,", "{1,2", "{0,20", "{99", "{99,", "{1,99", "{01", "{00,", "{3,2", "{3,02", "[", "[^", "[a", "[^a", "[a-", "[a-b", `[\d`, `[\d-`, `[\n-`, "[a-c-", "[-", "[]b[", `[a\`, `[a-\`, `[b-\`, `[\n-\`} {
		checkBehind(t, outer, wrong, len(wrong), api.ErrEnd)
	}
	for _, wrong := range []string{"", "a", "a-", "-", "--", "---", `\`, `a\`, `a-\`, `\d-`, `\\-`, `\\-\`, "a-b", "a-b-", "^", "[", "{", "{1", "(", "a?"} {
		checkBehind(t, inner(wrong), wrong, len(wrong), api.ErrEnd)
	}
	checkWrong(t, "\u05d0\U0001f600\\", 3, api.ErrEnd)
	checkWrong(t, "[\u05d0-", 3, api.ErrEnd)
}

// P15.1: a \ that no escape begins with, outside of a class, in it, and as a range's end.
func TestWrongEscape(t *testing.T) {
	for _, c := range sample.Chars("abcefgmpqruvxyzNTABCEZ019, :<=>_~!#%&'\"@`") {
		wrong := `\` + string(rune(c))
		checkBehind(t, outer, wrong, 0, api.ErrEscape, later...)
		checkBehind(t, inner(wrong), wrong, 0, api.ErrEscape, later...)
		checkBehind(t, inner("a"), "a-"+wrong, 2, api.ErrEscape, later...)
		checkBehind(t, inner(`\n`), `\n-`+wrong, 3, api.ErrEscape, later...)
	}
	for _, c := range slices.Concat(none, others) {
		checkList(t, []int{'a', '\\', c, 'd'}, nil, 1, api.ErrEscape)
		checkList(t, []int{'[', 'a', '\\', c, 'd', ']'}, nil, 2, api.ErrEscape)
		checkList(t, []int{'[', 'a', '-', '\\', c, ']'}, nil, 3, api.ErrEscape)
	}
	checkBehind(t, outer, "\\\n", 0, api.ErrEscape, later...)
	checkBehind(t, outer, `\\\q`, 2, api.ErrEscape, later...)
}

// P15.1: braces of no form.
func TestWrongBraces(t *testing.T) {
	for _, wrong := range []string{"{}", "{,}", "{,", "{,,", "{,2}", "{,2", "{a}", "{a", "{2a}", "{2a", "{2,a}", "{2,a", "{2,3a}", "{2,3a", "{2,3,", "{2,3,}", "{2,3,4}", "{2,,3}", "{2,,", "{-1}", "{-", "{1-2}", "{ 2}", "{2 }", "{2, 3}", "{+1}", "{1.5}", "{{", "{{2}}", "{2{", "{2,{", "{[", "{2[", "{?", "{|", "{)", "{\u0662}", "{0x2}", `{\2}`, `{2\}`, `{\`, `{2\`, "{]", "{1;2}", "{/}", "{:}", "{1/", "{1:", "{1,/", "{1,:"} {
		checkBehind(t, outer, wrong, 0, api.ErrCount, later...)
	}
	for _, c := range slices.Concat(none, others, []int{1<<32 + '1', 1<<32 + '}', 0x100 + '2', -0x100 + ',', '0' - 1, '9' + 1}) {
		checkList(t, []int{'a', '{', c, '}'}, nil, 1, api.ErrCount)
		checkList(t, []int{'a', '{', '1', c, '}'}, nil, 1, api.ErrCount)
		checkList(t, []int{'a', '{', '1', ',', c, '}'}, nil, 1, api.ErrCount)
		checkList(t, []int{'a', '{', '1', ',', '2', c}, nil, 1, api.ErrCount)
	}
}

// P15.1: numbers that may not be, behind which the braces end; where the pattern ends ahead of that it is told instead.
func TestWrongNumbers(t *testing.T) {
	numbers := []string{"21", "22", "29", "30", "99", "100", "120", "200", "256", "257", "258", "276", "00", "01", "02", "09", "010", "020", "021", "000", "0000000001", "65537", "4294967296", "4294967297", "4294967298", "18446744073709551616", "18446744073709551617", "18446744073709551630", "36893488147419103233"}
	for _, digits := range []string{"1", "9", "0", "20", "02"} {
		numbers = append(numbers, strings.Repeat(digits, 24), strings.Repeat(digits, 40))
	}
	for _, n := range numbers {
		checkBehind(t, outer, "{"+n+"}", 0, api.ErrCount, later...)
		checkBehind(t, outer, "{"+n+",}", 0, api.ErrCount, later...)
		checkBehind(t, outer, "{"+n+",20}", 0, api.ErrCount, later...)
		checkBehind(t, outer, "{0,"+n+"}", 0, api.ErrCount, later...)
		checkBehind(t, outer, "{"+n+","+n+"}", 0, api.ErrCount, later...)
		checkBehind(t, outer, "{"+n+"a", 0, api.ErrCount, later...)
		checkBehind(t, outer, "{0,"+n+"a", 0, api.ErrCount, later...)
		for _, wrong := range []string{"{" + n, "{" + n + ",", "{0," + n, "{" + n + "," + n} {
			checkBehind(t, outer, wrong, len(wrong), api.ErrEnd)
		}
	}
	for _, wrong := range []string{"{1,0}", "{2,1}", "{20,0}", "{20,19}", "{10,9}", "{20,3}", "{12,2}"} {
		checkBehind(t, outer, wrong, 0, api.ErrCount, later...)
	}
	longest := "{" + strings.Repeat("7", 199)
	checkWrong(t, longest, 200, api.ErrEnd)
	checkWrong(t, longest[:199]+"}", 0, api.ErrCount)
	checkWrong(t, "{1,"+longest[1:197]+"}", 0, api.ErrCount)
}

// P15.1: a group as a range's end, at its \; and Low above High, at the first one's beginning.
func TestWrongRange(t *testing.T) {
	for _, letter := range groups {
		for _, low := range []string{"a", "~", "\x01", "-", "{", "(", `\n`, `\\`, `\-`, `\]`, "\u05d0"} {
			checkBehind(t, inner(low), low+`-\`+string(letter), len(sample.Chars(low))+1, api.ErrRange, later...)
		}
	}
	for _, wrong := range []string{"b-a", "z-a", "a-A", "a--", "{-[", "1-0", `a-\n`, `a-\t`, `a-\\`, `a-\]`, "a-[", "a-^", `\n-\t`, `\--+`, `\\-\[`, `\]-\[`, `\}-{`, "\u05d1-\u05d0", "\u05d0-a", "\U0001f600-\u05d0"} {
		checkBehind(t, inner(wrong), wrong, 0, api.ErrRange, later...)
	}
	checkWrong(t, "[a-cb-a]", 4, api.ErrRange)
	checkWrong(t, "[a--b]", 1, api.ErrRange)
	checkWrong(t, "[a-c--+]", 4, api.ErrRange)
	checkWrong(t, `[\d--+]`, 3, api.ErrRange)
	checkWrong(t, `[\d--\w]`, 5, api.ErrRange)
}

// P15.1: of several that a pattern has the first one that is met counts.
func TestSeveral(t *testing.T) {
	checkWrong(t, `\q{99}`, 0, api.ErrEscape)
	checkWrong(t, `{99}\q`, 0, api.ErrCount)
	checkWrong(t, `{99\q`, 0, api.ErrCount)
	checkWrong(t, `{99`, 3, api.ErrEnd)
	checkWrong(t, `[b-a`, 1, api.ErrRange)
	checkWrong(t, `[b-a\q`, 1, api.ErrRange)
	checkWrong(t, `[\qb-a`, 1, api.ErrEscape)
	checkWrong(t, `[b-\q`, 3, api.ErrEscape)
	checkWrong(t, `[b-\`, 4, api.ErrEnd)
	checkWrong(t, `[b-\d`, 3, api.ErrRange)
	checkWrong(t, `[b-\d\q]`, 3, api.ErrRange)
	checkWrong(t, `[{99}\q]{99}`, 5, api.ErrEscape)
	checkWrong(t, `[{99}]{99}`, 6, api.ErrCount)
	checkWrong(t, `a{2,1}[b-a]`, 1, api.ErrCount)
	checkWrong(t, `[b-a]a{2,1}`, 1, api.ErrRange)
	checkWrong(t, `\q\`, 0, api.ErrEscape)
	checkWrong(t, `{}{`, 0, api.ErrCount)
	faults := []struct {
		text  string
		place int
		e     api.Errno
	}{{`\q`, 0, api.ErrEscape}, {"{}", 0, api.ErrCount}, {"{21}", 0, api.ErrCount}, {"{3,2}", 0, api.ErrCount}, {"[b-a]", 1, api.ErrRange}, {`[a-\d]`, 3, api.ErrRange}, {`[a-\q]`, 3, api.ErrEscape}, {`[\q]`, 1, api.ErrEscape}}
	ends := []string{`\`, "{", "{2", "{2,", "{2,3", "[", "[^", "[a", "[a-", `[\`}
	for _, first := range faults {
		for _, second := range faults {
			checkBehind(t, outer, first.text+second.text, first.place, first.e, append(later, ends...)...)
		}
	}
}

// P15.1: the errors are api's own.
func TestErrors(t *testing.T) {
	for pattern, want := range map[string]error{strings.Repeat("a", 201): api.ErrSize, "[": api.ErrEnd, `\q`: api.ErrEscape, "{}": api.ErrCount, "[b-a]": api.ErrRange} {
		if l, _, e := token.Of(sample.Chars(pattern)); !errors.Is(e, want) || len(l) != 0 {
			t.Errorf("Of of %q: %v, error %d", pattern, l, e)
		}
	}
	for e, n := range map[api.Errno]int{api.OK: 0, api.ErrEnd: 4, api.ErrEscape: 6, api.ErrRange: 7, api.ErrCount: 8, api.ErrSize: 10} {
		if int(e) != n {
			t.Errorf("an error is %d, not %d", e, n)
		}
	}
}

package tree_test

import (
	"errors"
	"slices"
	"strconv"
	"strings"
	"testing"

	"ductus/api"
	"ductus/sample"
	"ductus/token"
	"ductus/tree"
)

// checkWrong: by each of the flags.
func checkWrong(t *testing.T, pattern string, at int, e api.Errno) {
	t.Helper()
	for flags := range 8 {
		checkList(t, sample.Chars(pattern), flags, api.Node{}, at, e)
	}
}

// checkRight: it isn't wrong.
func checkRight(t *testing.T, pattern string) {
	t.Helper()
	for flags := range 8 {
		if _, at, e := tree.Parse(sample.Chars(pattern), flags); at != 0 || e != api.OK {
			t.Errorf("Parse of %q: %d, error %d", pattern, at, e)
		}
	}
}

// P16.1: each error of layer 15, at its place, also behind what is wrong by this layer's words.
func TestWrongTokens(t *testing.T) {
	for _, x := range []struct {
		text string
		at   int
		e    api.Errno
	}{
		{`\`, 1, api.ErrEnd}, {"[", 1, api.ErrEnd}, {"[^", 2, api.ErrEnd}, {"[a-", 3, api.ErrEnd}, {"{", 1, api.ErrEnd}, {"{2,", 3, api.ErrEnd},
		{`\q`, 0, api.ErrEscape}, {`[\1]`, 1, api.ErrEscape}, {"{}", 0, api.ErrCount}, {"{21}", 0, api.ErrCount}, {"{3,2}", 0, api.ErrCount}, {"[c-a]", 1, api.ErrRange}, {`[a-\w]`, 3, api.ErrRange},
	} {
		for _, ahead := range []string{"", "a", "*", ")", "(", "((", "a**", "|+", "a)b", "[b](c|", "a*?*", strings.Repeat("(", 21), "\u05d0", "(a{20}){20}"} {
			checkWrong(t, ahead+x.text, len(sample.Chars(ahead))+x.at, x.e)
			_, at, e := token.Of(sample.Chars(ahead + x.text))
			checkWrong(t, ahead+x.text, at, e)
		}
	}
	for _, text := range []string{"a", "(", ")", "*", "[", `\`, "(a{20}){20}"} {
		checkWrong(t, strings.Repeat(text, 201), 0, api.ErrSize)
		checkList(t, sample.Chars(strings.Repeat(text, 201))[:201], 0, api.Node{}, 0, api.ErrSize)
	}
	checkRight(t, strings.Repeat("a", 200))
}

// What may stand behind something that is wrong: nothing in it counts any more.
var later = []string{"", "a", ")", "*", "**", "|", "(", "()", "[a]", "?", "{2}", strings.Repeat("(", 21), "(a{20}){20}", strings.Repeat("a", 100)}

// P16.1: ) with nothing open.
func TestShutWithNothingOpen(t *testing.T) {
	for _, ahead := range []string{"", "a", "ab", "()", "(a)", "((a)b)", "a|", "|", "^", "$", "a*", "a*?", "[(]", `\(`, "()()", "(a|b)*", "\u05d0\U0001f600", strings.Repeat("(", 20) + strings.Repeat(")", 20), `\d`, "[^]", "[a-c]{2,13}?"} {
		for _, behind := range later {
			checkWrong(t, ahead+")"+behind, len(sample.Chars(ahead)), api.ErrSign)
		}
	}
	checkWrong(t, ")(", 0, api.ErrSign)
	checkWrong(t, "(a))(b)", 3, api.ErrSign)
	checkWrong(t, "[)])", 3, api.ErrSign)
	checkWrong(t, `\))`, 2, api.ErrSign)
	checkRight(t, `[)]\)()`)
}

// P16.1: each repeat at the beginning, behind (, behind the or-sign, behind a repeat, behind a lazy one.
func TestRepeatOfNothing(t *testing.T) {
	signs := []string{"?", "*", "+", "{0}", "{2}", "{18,}", "{0,1}", "{2,13}"}
	for _, sign := range signs {
		for _, ahead := range []string{"", "(", "a(", "((", "(()(", "|", "a|", "(|", "(a|", "a||", "()|", "a*|", "[a](b|"} {
			for _, behind := range later {
				checkWrong(t, ahead+sign+behind, len(ahead), api.ErrSign)
			}
		}
		for _, first := range signs {
			// A ? right behind a repeat is lazy, and no repeat.
			for _, ahead := range []string{"a", "(a)", "()", "[]", "^", "b|$", "(a|.", `\d`} {
				if sign != "?" {
					checkWrong(t, ahead+first+sign, len(ahead+first), api.ErrSign)
					checkWrong(t, ahead+first+sign+")", len(ahead+first), api.ErrSign)
				} else {
					checkWrong(t, ahead+first+"???", len(ahead+first)+1, api.ErrSign)
				}
				checkWrong(t, ahead+first+"?"+sign, len(ahead+first)+1, api.ErrSign)
				checkWrong(t, ahead+first+"?"+sign+"**((", len(ahead+first)+1, api.ErrSign)
			}
			checkRight(t, "a"+first+"b"+sign)
			checkRight(t, "(a"+first+")"+sign)
			checkRight(t, "(a"+first+"?)"+sign+"?")
			checkRight(t, "a"+first+"?b"+sign)
			checkRight(t, "a"+first+"|b"+sign)
		}
		checkRight(t, "()"+sign)
		checkRight(t, "^"+sign+"$"+sign)
		checkRight(t, "[]"+sign+"."+sign)
	}
	checkRight(t, "[*]"+`\**`)
	checkRight(t, `\|*\(+`)
	checkRight(t, "[|]?[(]{2}")
	checkWrong(t, "\u05d0\U0001f600|*", 3, api.ErrSign)
}

// P16.1: ( within 20 others, and not within 19; those that are shut don't count.
func TestTooDeep(t *testing.T) {
	open, shut := strings.Repeat("(", 20), strings.Repeat(")", 20)
	for _, behind := range append(later, ")", shut+")", shut+")*", "a"+shut, "*"+shut) {
		if !strings.HasPrefix(behind, "a") {
			checkWrong(t, open+"("+behind, 20, api.ErrDeep)
		}
		checkWrong(t, open+"a("+behind, 21, api.ErrDeep)
		checkWrong(t, open+"a|("+behind, 22, api.ErrDeep)
		checkWrong(t, open+")(("+behind, 22, api.ErrDeep)
	}
	checkWrong(t, strings.Repeat("(", 200), 20, api.ErrDeep)
	checkWrong(t, strings.Repeat("(a", 100), 40, api.ErrDeep)
	checkWrong(t, "()"+open+"((", 22, api.ErrDeep)
	checkWrong(t, open+shut+open+"()"+shut, 60, api.ErrDeep)
	checkWrong(t, open+")(()"+shut, 22, api.ErrDeep)
	checkWrong(t, "[((]"+open+"(", 24, api.ErrDeep)
	checkWrong(t, "\u05d0"+open+"(", 21, api.ErrDeep)
	checkRight(t, open+shut)
	checkRight(t, open+shut+open+shut)
	checkRight(t, open+")()()"+shut[1:])
	checkRight(t, open+`\([(]`+shut)
	checkRight(t, strings.Repeat("()", 100))
	for n := 1; n <= 20; n++ {
		checkRight(t, strings.Repeat("(a", n)+strings.Repeat(")", n))
	}
}

// P16.1: at the end, for one that is open and for several; what is wrong ahead of it comes first.
func TestStillOpen(t *testing.T) {
	for n := 1; n <= 20; n++ {
		for _, behind := range []string{"", "a", "|", "a|b", "()", "[)]", `\)`, "a*", "\u05d0", "^", "a{2}?"} {
			open := strings.Repeat("(", n)
			if n == 20 && behind == "()" {
				continue
			}
			checkWrong(t, open+behind, n+len(sample.Chars(behind)), api.ErrEnd)
			checkWrong(t, "ab"+open+behind, 2+n+len(sample.Chars(behind)), api.ErrEnd)
			for shut := 1; shut < n; shut++ {
				checkWrong(t, open+behind+strings.Repeat(")", shut), n+len(sample.Chars(behind))+shut, api.ErrEnd)
			}
		}
	}
	checkWrong(t, strings.Repeat("a", 199)+"(", 200, api.ErrEnd)
	checkWrong(t, "("+strings.Repeat("a", 199), 200, api.ErrEnd)
	checkWrong(t, "(a{20}){20}(", 12, api.ErrEnd)
	checkWrong(t, "((a{20}){20}", 12, api.ErrEnd)
	checkWrong(t, "(*", 1, api.ErrSign)
	checkWrong(t, "(a**", 3, api.ErrSign)
}

// checkSized: the pattern's tree has just that size, or it is too great.
func checkSized(t *testing.T, pattern string, size int) {
	t.Helper()
	if size > 400 {
		checkWrong(t, pattern, 0, api.ErrSize)
		return
	}
	for flags := range 8 {
		n, at, e := tree.Parse(sample.Chars(pattern), flags)
		if at != 0 || e != api.OK || tree.Size(n) != size {
			t.Errorf("Parse of %q: size %d, not %d, place %d, error %d", pattern, tree.Size(n), size, at, e)
		}
	}
}

// P16.1: just above 400 and not at 400: by repeats within repeats, by High, by Low where High is below 0, by 0 times.
func TestTooGreat(t *testing.T) {
	checkSized(t, "(a{19}){19}", 381)
	checkSized(t, "(a{20}){19}", 400)
	checkSized(t, "(a{19}){20}", 401)
	checkSized(t, "(a{20}){20}", 421)
	// By High, whatever Low is.
	checkSized(t, "(a{0,20}){0,19}", 400)
	checkSized(t, "(a{0,19}){0,20}", 401)
	checkSized(t, "(a{3,20}){19,19}", 400)
	checkSized(t, "(a{19,19}){20,20}", 401)
	// By Low, and once more.
	checkSized(t, "(a{19,}){19}", 400)
	checkSized(t, "(a{20}){18,}", 400)
	checkSized(t, "(a{19}){19,}", 401)
	checkSized(t, "(a{18,}){20}", 401)
	checkSized(t, "(a{19,}){18,}", 400)
	checkSized(t, "(a{18,}){19,}", 401)
	checkSized(t, "(a{20,}){20,}", 463)
	for behind := range 30 {
		more := strings.Repeat("b", behind)
		// Within brackets: a join of it, and of those behind it, repeated none and more times.
		whole := "((a{20}){17}" + more + ")"
		size := 358
		if behind > 0 {
			size = 1 + size + behind
		}
		checkSized(t, whole, size)
		for sign, often := range map[string]int{"{0}": 1, "{0,0}": 1, "?": 1, "*": 1, "{1}": 1, "{0,1}": 1, "{0,}": 1, "+": 2, "{1,}": 2, "{2}": 2, "{0,2}": 2, "{20}": 20} {
			checkSized(t, whole+sign, 1+often*size)
			checkSized(t, whole+sign+"?", 1+often*size)
		}
	}
	for a := 1; a <= 20; a++ {
		for b := 1; b <= 20; b++ {
			x, y := strconv.Itoa(a), strconv.Itoa(b)
			checkSized(t, "((ab){"+x+"}){"+y+"}", 1+b*(1+3*a))
			checkSized(t, "((a|b){"+x+",}){"+y+",}", 1+(b+1)*(1+3*(a+1)))
		}
	}
	checkSized(t, "(((a{7}){7}){7})", 1+7*(1+7*8))
	checkSized(t, "(((a{7}){7}){6}){1}", 2+6*(1+7*8))
	checkSized(t, "((((((((a{20}){20}){20}){20}){20}){20}){20}){20}){20}", 512000000000)
	checkSized(t, strings.Repeat("(", 20)+"a"+strings.Repeat("{20})", 20), 1000000)
	checkSized(t, strings.Repeat("(", 20)+"a"+strings.Repeat("{20,})", 20), 1000000)
	checkSized(t, strings.Repeat("(", 20)+"a"+strings.Repeat("?)", 20), 21)
	checkSized(t, strings.Repeat("(", 20)+"a"+strings.Repeat("{0})", 20), 21)
	checkSized(t, strings.Repeat("|", 198), 200)
	checkSized(t, strings.Repeat("a|", 100), 102)
	checkSized(t, strings.Repeat("(|)", 66), 199)
	checkSized(t, "("+strings.Repeat("a", 198)+")", 199)
	checkSized(t, "("+strings.Repeat("a", 195)+"){2}", 393)
	checkSized(t, "("+strings.Repeat("a", 195)+")+", 393)
	checkSized(t, "("+strings.Repeat("a", 190)+"){2}bbbbb", 389)
	checkSized(t, "a{20}(b{18}){19}bbbbbbbbbbbbbbbb", 1+21+362+16)
	checkSized(t, "a{20}(b{18}){19}bbbbbbbbbbbbbbbbb", 401)
}

// P16.1: of several that a pattern has the first that is met counts.
func TestSeveral(t *testing.T) {
	checkWrong(t, "*)", 0, api.ErrSign)
	checkWrong(t, ")*", 0, api.ErrSign)
	checkWrong(t, "(*", 1, api.ErrSign)
	checkWrong(t, "a)*(", 1, api.ErrSign)
	checkWrong(t, "(a|*", 3, api.ErrSign)
	checkWrong(t, "a**)", 2, api.ErrSign)
	checkWrong(t, "(a{20}){20})", 11, api.ErrSign)
	checkWrong(t, "(a{20}){20}|*", 12, api.ErrSign)
	checkWrong(t, "*(a{20}){20}", 0, api.ErrSign)
	checkWrong(t, "(a{20}){20}"+strings.Repeat("(", 21), 31, api.ErrDeep)
	checkWrong(t, strings.Repeat("(", 21)+"*", 20, api.ErrDeep)
	checkWrong(t, strings.Repeat("(", 20)+"*(", 20, api.ErrSign)
	checkWrong(t, strings.Repeat("(", 20)+"|*(", 21, api.ErrSign)
	checkWrong(t, strings.Repeat("(", 20)+strings.Repeat(")", 21)+strings.Repeat("(", 21), 40, api.ErrSign)
	checkWrong(t, strings.Repeat("(", 21)+strings.Repeat(")", 22), 20, api.ErrDeep)
	faults := []struct {
		text string
		at   int
		e    api.Errno
	}{{")", 0, api.ErrSign}, {"a)", 1, api.ErrSign}, {"|*", 1, api.ErrSign}, {"a+{2}", 2, api.ErrSign}, {"(?", 1, api.ErrSign}, {"a*??", 3, api.ErrSign}, {strings.Repeat("(", 21), 20, api.ErrDeep}}
	for _, first := range faults {
		for _, second := range faults {
			for _, third := range later {
				checkWrong(t, first.text+second.text+third, first.at, first.e)
			}
		}
	}
	// Layer 15's come ahead of all of these.
	for _, x := range faults {
		checkWrong(t, x.text+`a\q`, len(x.text)+1, api.ErrEscape)
		checkWrong(t, x.text+"[", len(x.text)+1, api.ErrEnd)
		checkWrong(t, x.text+"a[b-a]", len(x.text)+2, api.ErrRange)
		checkWrong(t, x.text+"a{99}", len(x.text)+1, api.ErrCount)
	}
}

// P16.1: the errors are api's own.
func TestErrors(t *testing.T) {
	for pattern, want := range map[string]error{"[": api.ErrEnd, "(": api.ErrEnd, ")": api.ErrSign, `\q`: api.ErrEscape, "[b-a]": api.ErrRange, "{}": api.ErrCount, strings.Repeat("(", 21): api.ErrDeep, "(a{20}){20}": api.ErrSize} {
		if _, _, e := tree.Parse(sample.Chars(pattern), 0); !errors.Is(e, want) {
			t.Errorf("Parse of %q: error %d", pattern, e)
		}
	}
	if _, _, e := tree.Parse(nil, 8); !errors.Is(e, api.ErrFlag) {
		t.Errorf("flags 8: error %d", e)
	}
	numbers := []api.Errno{4, 5, 6, 7, 8, 9, 10, 11}
	if !slices.Equal(numbers, []api.Errno{api.ErrEnd, api.ErrSign, api.ErrEscape, api.ErrRange, api.ErrCount, api.ErrDeep, api.ErrSize, api.ErrFlag}) {
		t.Error("the errors' numbers")
	}
}

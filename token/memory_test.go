package token_test

import (
	"slices"
	"testing"

	"ductus/api"
	"ductus/sample"
	"ductus/token"
)

// Patterns, right and wrong, with all that may be in one; behind some of them what comes would be of them.
var some = []string{"", "a", "a{2,3}?", `[^a-z\d]`, "[", "[^", "[a-", "a{1", "a{1,", "a{21}", `\`, `\q`, "a*", "[b-a]", `[a-\d]`, `(\n|[]])+?$`, "x{20", `[\n-\n-]`}

// tokens: those of a pattern alone.
func tokens(l []int) []api.Token {
	out, _, _ := token.Of(l)
	return out
}

// P15.1, by the rules that hold everywhere: what is handed in isn't changed nor kept, its spare room neither; what is answered is new.
func TestNothingIsChanged(t *testing.T) {
	for _, text := range some {
		l := sample.Chars(text)
		want, _, _ := tokensOf(l)
		if fault := sample.Fault(l, want, api.Token{Kind: 77}, tokens); fault != "" {
			t.Errorf("Of of %q: it %s", text, fault)
		}
		if fault := sample.Fault(l, quoteOf(l), 77, token.Quote); fault != "" {
			t.Errorf("Quote of %q: it %s", text, fault)
		}
	}
	much := slices.Repeat([]int{'.'}, 201)
	if fault := sample.Fault(much, nil, api.Token{Kind: 77}, tokens); fault != "" {
		t.Errorf("Of of 201 characters: it %s", fault)
	}
}

// P15.1, by the rules: what stands behind a list in its room isn't of it, nor what stands ahead of it.
func TestSpareRoomIsNotRead(t *testing.T) {
	for _, text := range append(some, `[^-\]]{1,20}??\d`, "a{1,2}[a-c-]") {
		whole := append(sample.Chars(text), sample.Chars("?^]-0,}n\\")...)
		was := slices.Clone(whole)
		for from := range whole {
			for to := from; to <= len(whole); to++ {
				checkOracle(t, whole[from:to])
				checkQuote(t, whole[from:to], quoteOf(whole[from:to]))
			}
		}
		if !slices.Equal(whole, was) {
			t.Errorf("%s is %s", sample.Quoted(was), sample.Quoted(whole))
		}
	}
}

// P15.1, by the rules: a call hangs on its arguments alone, whatever was called ahead of it, and however often it is called.
func TestNothingIsKept(t *testing.T) {
	for _, first := range some {
		for _, second := range some {
			checkOracle(t, sample.Chars(first))
			checkOracle(t, sample.Chars(second))
			checkList(t, make([]int, 201), nil, 0, api.ErrSize)
			checkQuote(t, sample.Chars(second), quoteOf(sample.Chars(second)))
		}
	}
	// The same list, with something else in it.
	l := sample.Chars("[a]?")
	checkList(t, l, []api.Token{class(0, 0), char('a', 1), end(2), repeat(0, 1, 3)}, 0, api.OK)
	l[0] = '*'
	checkList(t, l, []api.Token{repeat(0, -1, 0), char('a', 1), char(']', 2), repeat(0, 1, 3)}, 0, api.OK)
	l[1] = '\\'
	checkList(t, l, []api.Token{repeat(0, -1, 0), char(']', 1), repeat(0, 1, 3)}, 0, api.OK)
	l[2] = 'a'
	checkList(t, l, nil, 1, api.ErrEscape)
	l[1] = '?'
	checkList(t, l, []api.Token{repeat(0, -1, 0), lazy(1), char('a', 2), repeat(0, 1, 3)}, 0, api.OK)
}

// P15.1, by the rules: what was answered stays as it was, though the pattern is changed, and others are read.
func TestAnswersStay(t *testing.T) {
	for _, text := range some {
		l := sample.Chars(text)
		want, _, _ := tokensOf(l)
		got, quoted := tokens(l), token.Quote(l)
		wantQuoted := quoteOf(l)
		for i := range l {
			l[i] = '|'
		}
		for _, other := range some {
			tokens(sample.Chars(other))
			token.Quote(sample.Chars(other))
		}
		if !slices.Equal(got, want) || !slices.Equal(quoted, wantQuoted) {
			t.Errorf("of %q, later: %v, %s", text, got, sample.Quoted(quoted))
		}
	}
}

package token_test

import (
	"slices"
	"testing"

	"ductus/api"
	"ductus/sample"
	"ductus/token"
)

func checkQuote(t *testing.T, l, want []int) {
	t.Helper()
	if got := token.Quote(l); !slices.Equal(got, want) {
		t.Errorf("Quote of %s: %s, not %s", sample.Quoted(l), sample.Quoted(got), sample.Quoted(want))
	}
}

// P15.1: no characters, signs, others, and numbers that are no characters.
func TestQuote(t *testing.T) {
	checkQuote(t, nil, nil)
	checkQuote(t, []int{}, nil)
	for text, want := range map[string]string{
		"a": "a", "abc": "abc", ".": `\.`, "a.b": `a\.b`, "..": `\.\.`, `a.b-\`: `a\.b\-\\`, `\`: `\\`, `\n`: `\\n`, "\n\t": "\n\t", `\\`: `\\\\`, `\d`: `\\d`, "{2,3}": `\{2,3\}`, "[^a-z]": `\[\^a\-z\]`, "a|b": `a\|b`, "(a)*": `\(a\)\*`, "1+1/$?": `1\+1\/\$\?`, "\u05d0.\u05d0": "\u05d0\\.\u05d0", " ,:=<>": " ,:=<>",
	} {
		checkQuote(t, sample.Chars(text), sample.Chars(want))
	}
	checkQuote(t, sample.Chars(".()^$?*+{}[]-/\\|"), sample.Chars(`\.\(\)\^\$\?\*\+\{\}\[\]\-\/\\\|`))
	for _, c := range slices.Concat(none, others) {
		checkQuote(t, []int{c}, []int{c})
		checkQuote(t, []int{'.', c, '.'}, []int{'\\', '.', c, '\\', '.'})
	}
}

// P15.1: very many characters, too.
func TestQuoteMuch(t *testing.T) {
	for _, n := range []int{100, 101, 200, 201, 4000, 4001, 1 << 16} {
		for _, c := range []int{'a', '.', -1} {
			l := slices.Repeat([]int{c}, n)
			checkQuote(t, l, quoteOf(l))
		}
	}
}

// checkBack: what is quoted are its characters.
func checkBack(t *testing.T, l []int) {
	t.Helper()
	quoted := token.Quote(l)
	if !slices.Equal(quoted, quoteOf(l)) {
		t.Fatalf("Quote of %s: %s", sample.Quoted(l), sample.Quoted(quoted))
	}
	var want []api.Token
	place := 0
	for _, c := range l {
		want = append(want, char(c, place))
		place++
		if isSign(c) {
			place++
		}
	}
	checkList(t, quoted, want, 0, api.OK)
	if t.Failed() {
		t.FailNow()
	}
}

// P15.2: each short list of signs, letters of escapes, digits and others.
func TestThereAndBack(t *testing.T) {
	checkBack(t, nil)
	all := slices.Concat(sample.Chars(allSigns), sample.Chars("a,019ntdW\n"), none[:3], others)
	for l := range sample.Every(all, 2) {
		checkBack(t, l)
	}
	for l := range sample.Every(sample.Chars(`[]^-\{2,}?(a`), 4) {
		checkBack(t, l)
	}
	for c := range 0x300 {
		checkBack(t, []int{c})
		checkBack(t, []int{'\\', c, '-', c})
	}
	for _, c := range none {
		checkBack(t, []int{'[', c, '-', c, ']'})
	}
}

// P15.2: mixed lists of at most half of MaxPattern, and of just so many.
func TestMixedThereAndBack(t *testing.T) {
	all := slices.Concat(sample.Chars(allSigns), sample.Chars("abnt09,"), none, others)
	for l := range sample.MixedOf(all, 2000, 100) {
		checkBack(t, l)
	}
	for l := range sample.MixedOf(sample.Chars(allSigns), 1000, 100) {
		checkBack(t, l)
	}
	for _, c := range all {
		checkBack(t, slices.Repeat([]int{c}, 100))
	}
	for l := range sample.Patterns(pieces, 500, 20) {
		checkBack(t, l[:min(len(l), 100)])
	}
	// One more than half has room only if not all are signs.
	checkBack(t, append(slices.Repeat([]int{'.'}, 99), 'a', 'b'))
	checkList(t, token.Quote(slices.Repeat([]int{'.'}, 101)), nil, 0, api.ErrSize)
}

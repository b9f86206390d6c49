package token_test

import (
	"regexp"
	"slices"
	"strconv"
	"testing"

	"ductus/api"
	"ductus/sample"
	"ductus/token"
)

// The chapter's signs, its escapes' letters, and what its n and m may be.
const (
	allSigns = `.()^$?*+{}[]-/\|`
	groups   = "dwsDWS"
	signForm = `[.()^$?*+{}\[\]\-/\\|]`
	times    = `(0|[1-9]|1[0-9]|20)`
	// A character in a class, or an escape of one.
	oneForm = `([^\\\]]|\\[nt]|\\` + signForm + `)`
)

// table: the chapter's rows that are one token whatever stands beside them.
var table = []struct {
	form  string
	token api.Token
}{
	{`\.`, api.Token{Kind: 2}}, {`\(`, api.Token{Kind: 3}}, {`\)`, api.Token{Kind: 4}}, {`\x7c`, api.Token{Kind: 5}}, {`\^`, api.Token{Kind: 10}}, {`\$`, api.Token{Kind: 11}},
	{`\?`, api.Token{Kind: 6, High: 1}}, {`\*`, api.Token{Kind: 6, High: -1}}, {`\+`, api.Token{Kind: 6, Low: 1, High: -1}},
	{`\[\^`, api.Token{Kind: 7, Char: 1}}, {`\[`, api.Token{Kind: 7}},
}

// step is what stands at a place: a token, and how far behind it the next one begins; or an error, and how far behind it that is.
type step struct {
	token api.Token
	far   int
	e     api.Errno
}

// tokensOf: by the chapter's words one by one, each a form that what is left of the pattern begins with.
func tokensOf(l []int) ([]api.Token, int, api.Errno) {
	if len(l) > 200 {
		return nil, 0, api.ErrSize
	}
	text := masked(l)
	var out []api.Token
	at, last, inClass := 0, 0, false
	for at < len(l) || inClass {
		var s step
		if inClass {
			s = withinOf(l[at:], text[at:])
		} else {
			s = outsideOf(l[at:], text[at:], last)
		}
		if s.e != api.OK {
			return nil, at + s.far, s.e
		}
		s.token.Pos = at
		out = append(out, s.token)
		at += s.far
		last = s.token.Kind
		inClass = last == 7 || inClass && last != 8
	}
	return out, 0, api.OK
}

// masked: a text that has a byte for each number: what means something to a pattern as it is, and one that means nothing for all others.
func masked(l []int) string {
	b := make([]byte, len(l))
	for i, c := range l {
		b[i] = 1
		if 0x20 <= c && c < 0x7f {
			b[i] = byte(c)
		}
	}
	return string(b)
}

var forms = map[string]*regexp.Regexp{}

// fits: what is left of a pattern begins with a form: all of it, and its parts; else nil.
func fits(left, form string) []string {
	if forms[form] == nil {
		forms[form] = regexp.MustCompile(`\A(?:` + form + `)`)
	}
	return forms[form].FindStringSubmatch(left)
}

func outsideOf(l []int, left string, last int) step {
	if last == 6 && left[0] == '?' {
		return step{api.Token{Kind: 13}, 1, api.OK}
	}
	for _, row := range table {
		if m := fits(left, row.form); m != nil {
			return step{row.token, len(m[0]), api.OK}
		}
	}
	if left[0] == '{' {
		return bracesOf(left)
	}
	return escapeOf(l, left)
}

func bracesOf(left string) step {
	if m := fits(left, `\{`+times+`\}`); m != nil {
		return step{api.Token{Kind: 6, Low: decimal(m[1]), High: decimal(m[1])}, len(m[0]), api.OK}
	}
	if m := fits(left, `\{`+times+`,\}`); m != nil {
		return step{api.Token{Kind: 6, Low: decimal(m[1]), High: -1}, len(m[0]), api.OK}
	}
	if m := fits(left, `\{`+times+`,`+times+`\}`); m != nil && decimal(m[1]) <= decimal(m[2]) {
		return step{api.Token{Kind: 6, Low: decimal(m[1]), High: decimal(m[2])}, len(m[0]), api.OK}
	}
	if fits(left, `\{([0-9]+(,[0-9]*)?)?\z`) != nil {
		return step{far: len(left), e: api.ErrEnd}
	}
	return step{e: api.ErrCount}
}

func withinOf(l []int, left string) step {
	if left == "" {
		return step{e: api.ErrEnd}
	}
	if left[0] == ']' {
		return step{api.Token{Kind: 8}, 1, api.OK}
	}
	if m := fits(left, oneForm+`-`+oneForm); m != nil {
		low, high := charOf(l, m[1]), charOf(l[len(m[1])+1:], m[2])
		if low > high {
			return step{e: api.ErrRange}
		}
		return step{api.Token{Kind: 9, Low: low, High: high}, len(m[0]), api.OK}
	}
	if m := fits(left, oneForm+`-\\[`+groups+`]`); m != nil {
		return step{far: len(m[1]) + 1, e: api.ErrRange}
	}
	if fits(left, oneForm+`-\\?\z`) != nil {
		return step{far: len(left), e: api.ErrEnd}
	}
	if m := fits(left, oneForm+`-\\`); m != nil {
		return step{far: len(m[1]) + 1, e: api.ErrEscape}
	}
	return escapeOf(l, left)
}

// escapeOf: an escape, outside of a class or in it, and all others.
func escapeOf(l []int, left string) step {
	if fits(left, `\\[`+groups+`]`) != nil {
		return step{api.Token{Kind: 12, Char: l[1]}, 2, api.OK}
	}
	if m := fits(left, `\\[nt]|\\`+signForm); m != nil {
		return step{api.Token{Kind: 1, Char: charOf(l, m[0])}, 2, api.OK}
	}
	if left == `\` {
		return step{far: 1, e: api.ErrEnd}
	}
	if left[0] == '\\' {
		return step{e: api.ErrEscape}
	}
	return step{api.Token{Kind: 1, Char: l[0]}, 1, api.OK}
}

// charOf: the character that a part of a pattern, at its beginning, is or is an escape of.
func charOf(l []int, part string) int {
	switch part {
	case `\n`:
		return 0xa
	case `\t`:
		return 0x9
	}
	return l[len(part)-1]
}

func decimal(text string) int {
	n, err := strconv.Atoi(text)
	if err != nil {
		panic(err)
	}
	return n
}

// isSign: as the chapter tells them.
func isSign(c int) bool {
	for _, sign := range allSigns {
		if int(sign) == c {
			return true
		}
	}
	return false
}

// quoteOf: by the chapter's words.
func quoteOf(l []int) []int {
	var out []int
	for _, c := range l {
		if isSign(c) {
			out = append(out, '\\', c)
		} else {
			out = append(out, c)
		}
	}
	return out
}

// Tokens as a test tells them; each begins at pos.

func char(c, pos int) api.Token       { return api.Token{Kind: 1, Char: c, Pos: pos} }
func group(letter, pos int) api.Token { return api.Token{Kind: 12, Char: letter, Pos: pos} }
func class(turned, pos int) api.Token { return api.Token{Kind: 7, Char: turned, Pos: pos} }
func end(pos int) api.Token           { return api.Token{Kind: 8, Pos: pos} }
func lazy(pos int) api.Token          { return api.Token{Kind: 13, Pos: pos} }
func kind(k, pos int) api.Token       { return api.Token{Kind: k, Pos: pos} }
func repeat(low, high, pos int) api.Token {
	return api.Token{Kind: 6, Low: low, High: high, Pos: pos}
}
func span(low, high, pos int) api.Token {
	return api.Token{Kind: 9, Low: low, High: high, Pos: pos}
}

// checkList: Of of a pattern; beside no error the place is 0, and beside one there are no tokens.
func checkList(t *testing.T, l []int, want []api.Token, at int, e api.Errno) {
	t.Helper()
	tokens, place, told := token.Of(l)
	if place != at || told != e || !slices.Equal(tokens, want) {
		t.Errorf("Of of %s: %v, %d, error %d; not %v, %d, error %d", sample.Quoted(l), tokens, place, told, want, at, e)
	}
}

func check(t *testing.T, pattern string, want ...api.Token) {
	t.Helper()
	checkList(t, sample.Chars(pattern), want, 0, api.OK)
}

func checkWrong(t *testing.T, pattern string, at int, e api.Errno) {
	t.Helper()
	checkList(t, sample.Chars(pattern), nil, at, e)
}

// checkOracle: Of of a pattern is as the chapter's words say.
func checkOracle(t *testing.T, l []int) {
	t.Helper()
	want, at, e := tokensOf(l)
	checkList(t, l, want, at, e)
	if t.Failed() {
		t.FailNow()
	}
}

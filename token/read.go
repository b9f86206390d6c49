package token

import "ductus/api"

// tooMany is the number that digits are which no number may have.
const tooMany = api.MaxCount + 1

// wrong is what ends a reading: where, and by which error.
type wrong struct {
	at int
	e  api.Errno
}

// caught: all tokens; or what is wrong, wherever that ended the reading.
func caught(l []int) (tokens []api.Token, w wrong) {
	defer func() {
		x := recover()
		if x == nil {
			return
		}
		ours, ok := x.(wrong)
		if !ok {
			panic(x)
		}
		w = ours
	}()
	return read(l), wrong{}
}

// read: all tokens. What a character says hangs on where it stands: outside of a class, or in it.
func read(l []int) []api.Token {
	r := reader{pattern: l}
outside:
	if r.at == len(l) {
		return r.tokens
	}
	if r.outside() == api.TokClass {
		goto within
	}
	goto outside
within:
	if r.within() == api.TokEnd {
		goto outside
	}
	goto within
}

// reader goes through a pattern: at is where the next character stands.
type reader struct {
	pattern []int
	at      int
	tokens  []api.Token
}

// outside: one more token, outside of a class; its kind.
func (r *reader) outside() int {
	from := r.at
	switch c := r.next(); c {
	case '?', '*', '+':
		return r.add(r.repeat(c), from)
	case '{':
		return r.add(r.braces(from), from)
	case '[':
		return r.add(r.class(), from)
	case '\\':
		return r.add(r.escape(from), from)
	default:
		return r.add(alone(c), from)
	}
}

// within: one more token, in a class; its kind.
func (r *reader) within() int {
	from := r.at
	if r.sees(0, ']') {
		r.at++
		return r.add(api.Token{Kind: api.TokEnd}, from)
	}
	t := r.item()
	// Where the pattern ends behind the - the range's end is missing, and that is told there.
	if t.Kind == api.TokChar && r.sees(0, '-') && !r.sees(1, ']') {
		r.at++
		t = r.upTo(t.Char, from)
	}
	return r.add(t, from)
}

// add: a token that begins there; its kind.
func (r *reader) add(t api.Token, from int) int {
	t.Pos = from
	r.tokens = append(r.tokens, t)
	return t.Kind
}

// next: a character that is read. Only where the pattern may not end it is asked for.
func (r *reader) next() int {
	if r.at == len(r.pattern) {
		panic(wrong{r.at, api.ErrEnd})
	}
	c := r.pattern[r.at]
	r.at++
	return c
}

// sees: does a character stand so many behind the next one?
func (r *reader) sees(behind, c int) bool {
	i := r.at + behind
	return i < len(r.pattern) && r.pattern[i] == c
}

// alone: a character that is a token by itself, outside of a class.
func alone(c int) api.Token {
	switch c {
	case '.':
		return api.Token{Kind: api.TokAny}
	case '(':
		return api.Token{Kind: api.TokOpen}
	case ')':
		return api.Token{Kind: api.TokShut}
	case '|':
		return api.Token{Kind: api.TokOr}
	case '^':
		return api.Token{Kind: api.TokStart}
	case '$':
		return api.Token{Kind: api.TokStop}
	}
	return char(c)
}

func char(c int) api.Token {
	return api.Token{Kind: api.TokChar, Char: c}
}

// repeat: of one of ? * +, the last one read.
func (r *reader) repeat(c int) api.Token {
	n := len(r.tokens)
	switch {
	case c == '?' && n > 0 && r.tokens[n-1].Kind == api.TokRepeat:
		return api.Token{Kind: api.TokLazy}
	case c == '?':
		return api.Token{Kind: api.TokRepeat, High: 1}
	case c == '*':
		return api.Token{Kind: api.TokRepeat, High: -1}
	}
	return api.Token{Kind: api.TokRepeat, Low: 1, High: -1}
}

// braces: a repeat whose { stands at from.
func (r *reader) braces(from int) api.Token {
	n := r.digits()
	m := n
	end := r.next()
	if end == ',' && len(n) > 0 {
		m = r.digits()
		end = r.next()
	}
	// Not ahead of the end: if the pattern has none, that comes first, whatever the numbers are.
	low, high := number(n), number(m)
	if end != '}' || low < 0 || max(low, high) > api.MaxCount || 0 <= high && high < low {
		panic(wrong{from, api.ErrCount})
	}
	return api.Token{Kind: api.TokRepeat, Low: low, High: high}
}

// digits: as many as there are.
func (r *reader) digits() []int {
	from := r.at
	for r.at < len(r.pattern) && '0' <= r.pattern[r.at] && r.pattern[r.at] <= '9' {
		r.at++
	}
	return r.pattern[from:r.at]
}

// number: what digits are; -1 of none, so that no number ahead of the } is however often.
func number(digits []int) int {
	switch {
	case len(digits) == 0:
		return -1
	case digits[0] == '0' && len(digits) > 1:
		return tooMany
	}
	n := 0
	for _, d := range digits {
		// Never more than that: very many digits would wrap round, and could be a small number.
		n = min(10*n+d-'0', tooMany)
	}
	return n
}

// class: a class's beginning, [ being read.
func (r *reader) class() api.Token {
	t := api.Token{Kind: api.TokClass}
	if r.sees(0, '^') {
		r.at++
		t.Char = 1
	}
	return t
}

// escape: of a \ that stands at from, the last one read.
func (r *reader) escape(from int) api.Token {
	c, group, ok := Escape(r.next())
	switch {
	case !ok:
		panic(wrong{from, api.ErrEscape})
	case group:
		return api.Token{Kind: api.TokGroup, Char: c}
	}
	return char(c)
}

// item: a character in a class, or an escape.
func (r *reader) item() api.Token {
	from := r.at
	if c := r.next(); c != '\\' {
		return char(c)
	}
	return r.escape(from)
}

// upTo: a range from a character that stands at from, - being read.
func (r *reader) upTo(low, from int) api.Token {
	at := r.at
	end := r.item()
	switch {
	case end.Kind == api.TokGroup:
		panic(wrong{at, api.ErrRange})
	case low > end.Char:
		panic(wrong{from, api.ErrRange})
	}
	return api.Token{Kind: api.TokRange, Low: low, High: end.Char}
}

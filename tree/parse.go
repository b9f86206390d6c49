package tree

import (
	"slices"

	"ductus/api"
)

// fault: where tokens are wrong, and by which error; end is where the pattern does.
func fault(tokens []api.Token, end int) (int, api.Errno) {
	open := 0
	// Ahead of the first one it is as behind one that opens.
	ahead := api.Token{Kind: api.TokOpen}
	for _, t := range tokens {
		switch {
		case isOf(t, api.TokShut) && open == 0:
			return t.Pos, api.ErrSign
		case isOf(t, api.TokRepeat) && isOf(ahead, api.TokOpen, api.TokOr, api.TokRepeat, api.TokLazy):
			return t.Pos, api.ErrSign
		case isOf(t, api.TokOpen) && open == api.MaxDepth:
			return t.Pos, api.ErrDeep
		case isOf(t, api.TokOpen):
			open++
		case isOf(t, api.TokShut):
			open--
		}
		ahead = t
	}
	if open > 0 {
		return end, api.ErrEnd
	}
	return 0, api.OK
}

// isOf: is a token of one of some kinds?
func isOf(t api.Token, kinds ...int) bool {
	return slices.Contains(kinds, t.Kind)
}

// reader makes a tree of tokens that have no fault: left is what isn't read yet.
type reader struct {
	left  []api.Token
	flags int
}

// sees: is there a next one, of one of some kinds?
func (r *reader) sees(kinds ...int) bool {
	return len(r.left) > 0 && isOf(r.left[0], kinds...)
}

// takes: is the next one of one of some kinds? Then it is read.
func (r *reader) takes(kinds ...int) bool {
	seen := r.sees(kinds...)
	if seen {
		r.next()
	}
	return seen
}

func (r *reader) next() api.Token {
	t := r.left[0]
	r.left = r.left[1:]
	return t
}

// pattern: up to the end, or to the TokShut that belongs to what was opened.
func (r *reader) pattern() api.Node {
	kids := []api.Node{r.join()}
	for r.takes(api.TokOr) {
		kids = append(kids, r.join())
	}
	return together(api.NodeOr, kids)
}

// join: those that stand one behind the other.
func (r *reader) join() api.Node {
	var kids []api.Node
	for len(r.left) > 0 && !r.sees(api.TokOr, api.TokShut) {
		kids = append(kids, r.repeat())
	}
	return together(api.NodeJoin, kids)
}

// together: nodes as one of a kind, where they are several.
func together(kind int, kids []api.Node) api.Node {
	switch len(kids) {
	case 0:
		return api.Node{Kind: api.NodeEmpty}
	case 1:
		return kids[0]
	}
	return api.Node{Kind: kind, Kids: kids}
}

// repeat: one, and how often it is there.
func (r *reader) repeat() api.Node {
	n := r.one()
	if r.sees(api.TokRepeat) {
		t := r.next()
		n = api.Node{Kind: api.NodeRepeat, Low: t.Low, High: t.High, Kids: []api.Node{n}}
	}
	r.takes(api.TokLazy)
	return n
}

func (r *reader) one() api.Node {
	t := r.next()
	switch t.Kind {
	case api.TokOpen:
		n := r.pattern()
		r.takes(api.TokShut)
		return n
	case api.TokStart:
		return api.Node{Kind: api.NodeStart}
	case api.TokStop:
		return api.Node{Kind: api.NodeStop}
	}
	return api.Node{Kind: api.NodeSet, Ranges: r.set(t)}
}

// set: of a token that was read, and of those that belong to it.
func (r *reader) set(t api.Token) []api.Range {
	switch t.Kind {
	case api.TokAny:
		return r.dot()
	case api.TokClass:
		return r.class(t.Char == 1)
	}
	return r.part(t)
}

func (r *reader) dot() []api.Range {
	if r.flags&api.FlagAll != 0 {
		return turned(nil)
	}
	return turned(ranges('\n', '\n'))
}

// class: up to the TokEnd. Its parts may be more ranges than Set takes.
func (r *reader) class(round bool) []api.Range {
	var all []api.Range
	for !r.takes(api.TokEnd) {
		all = append(all, r.part(r.next())...)
	}
	all = least(all)
	if round {
		return turned(all)
	}
	return all
}

// part: what may stand in a class, and outside of one.
func (r *reader) part(t api.Token) []api.Range {
	switch {
	case isOf(t, api.TokRange):
		return behind(ranges(t.Low, t.High), r.flags)
	case isOf(t, api.TokChar):
		return behind(ranges(t.Char, t.Char), r.flags)
	}
	l := behind(group(t.Char), r.flags)
	if slices.Contains([]int{'D', 'S', 'W'}, t.Char) {
		return turned(l)
	}
	return l
}

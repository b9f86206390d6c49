package tree_test

import (
	"math/big"
	"slices"
	"strconv"
	"testing"

	"ductus/api"
	"ductus/sample"
	"ductus/token"
)

// folds: layer 4's table, word by word: from, to, and how many more.
var folds = [][3]int{
	{0x41, 0x5a, 0x20}, {0xc0, 0xd6, 0x20}, {0xd8, 0xde, 0x20}, {0x391, 0x3a1, 0x20}, {0x3a3, 0x3a9, 0x20}, {0x410, 0x42f, 0x20}, {0x400, 0x40f, 0x50},
	{0xb5, 0xb5, 0x3bc - 0xb5}, {0x3c2, 0x3c2, 0x3c3 - 0x3c2}, {0x1e9e, 0x1e9e, 0xdf - 0x1e9e},
}

// mirrors: layer 3's table, word by word.
var mirrors = [][2]int{
	{0x28, 0x29}, {0x5b, 0x5d}, {0x7b, 0x7d}, {0x2329, 0x232a}, {0x3008, 0x3009}, {0x300a, 0x300b}, {0x300c, 0x300d}, {0x300e, 0x300f}, {0x3010, 0x3011},
	{0x3c, 0x3e}, {0xab, 0xbb}, {0x2264, 0x2265}, {0x226a, 0x226b},
}

// foldedOf: a character, folded.
func foldedOf(c int) int {
	for _, row := range folds {
		if row[0] <= c && c <= row[1] {
			return c + row[2]
		}
	}
	return c
}

// mirroredOf: what a character is mirrored into, or it.
func mirroredOf(c int) int {
	for _, row := range mirrors {
		if i := slices.Index(row[:], c); i >= 0 {
			return row[1-i]
		}
	}
	return c
}

// alike: of each character that is folded, or folded into, all that are folded as it is.
var alike = func() map[int][]int {
	out := map[int][]int{}
	for c := range 0x2000 {
		out[foldedOf(c)] = append(out[foldedOf(c)], c)
	}
	for c := range 0x2000 {
		out[c] = out[foldedOf(c)]
	}
	for c := range 0x2000 {
		if len(out[c]) == 1 {
			delete(out, c)
		}
	}
	return out
}()

// changed: all that are folded, folded into, or mirrored, rising.
var changed = func() []int {
	var out []int
	for c := range 0x4000 {
		if alike[c] != nil || mirroredOf(c) != c {
			out = append(out, c)
		}
	}
	return out
}()

// has tells of each character whether a set has it.
type has func(c int) bool

// inOf: the characters of ranges.
func inOf(l []api.Range) has {
	return func(c int) bool {
		for _, r := range l {
			if r.Low <= c && c <= r.High {
				return true
			}
		}
		return false
	}
}

// foldOf, mirrorOf and closeOf: by the chapter's words, behind FlagFold, behind FlagMirror, and behind flags.

func foldOf(of has) has {
	return func(c int) bool {
		return of(c) || slices.ContainsFunc(alike[c], of)
	}
}

func mirrorOf(of has) has {
	return func(c int) bool { return of(c) || of(mirroredOf(c)) }
}

func closeOf(of has, flags int) has {
	if flags&1 != 0 {
		of = foldOf(of)
	}
	if flags&2 != 0 {
		of = mirrorOf(of)
	}
	return of
}

func turnOf(of has) has {
	return func(c int) bool { return !of(c) }
}

// edgesOf: where sets made of ranges can begin, and end: at their own edges, at those of a group, and beside each character that flags change.
func edgesOf(lists ...[]api.Range) []int {
	out := []int{0}
	add := func(c int) {
		for _, e := range []int{c, c + 1} {
			if 0 <= e && e <= api.Top {
				out = append(out, e)
			}
		}
	}
	for _, l := range lists {
		for _, r := range l {
			add(r.Low - 1)
			add(r.High)
		}
	}
	for _, c := range changed {
		add(c)
	}
	slices.Sort(out)
	return slices.Compact(out)
}

// rangesOf: a set, as it is least; between two of the edges all characters are alike to it.
func rangesOf(of has, edges []int) []api.Range {
	var out []api.Range
	open := false
	for i, low := range edges {
		high := api.Top
		if i+1 < len(edges) {
			high = edges[i+1] - 1
		}
		switch in := of(low); {
		case in && open:
			out[len(out)-1].High = high
		case in:
			out = append(out, api.Range{Low: low, High: high})
			open = true
		default:
			open = false
		}
	}
	return out
}

// The chapter's groups, word by word.
var (
	digit = between('0', '9')
	space = between(0x9, 0xd, 0x20, 0x20, 0x85, 0x85, 0xa0, 0xa0, 0x2028, 0x2029)
	words = between(0x30, 0x39, 0x41, 0x5a, 0x5f, 0x5f, 0x61, 0x7a, 0xc0, 0xd6, 0xd8, 0xf6, 0xf8, 0x24f, 0x370, 0x3ff, 0x400, 0x4ff, 0x5d0, 0x5ea, 0x620, 0x64a, 0x660, 0x669)
)

// partOf: the set of one token of a class, or of one that stands alone.
func partOf(t api.Token, flags int) has {
	switch {
	case t.Kind == 2 && flags&4 != 0:
		return turnOf(inOf(nil))
	case t.Kind == 2:
		return turnOf(inOf(between(0xa, 0xa)))
	case t.Kind == 1:
		return closeOf(inOf(between(t.Char, t.Char)), flags)
	case t.Kind == 9:
		return closeOf(inOf(between(t.Low, t.High)), flags)
	}
	group := map[int]has{'d': inOf(digit), 's': inOf(space), 'w': inOf(words)}
	if of := group[t.Char]; of != nil {
		return closeOf(of, flags)
	}
	return turnOf(closeOf(group[t.Char+0x20], flags))
}

// Sets of tokens that were worked out once.
var known = map[string][]api.Range{}

// setOf: the set of tokens: one, or a class with all that is in it.
func setOf(l []api.Token, flags int) []api.Range {
	name := strconv.Itoa(flags)
	for _, t := range l {
		name += " " + strconv.Itoa(t.Kind) + " " + strconv.Itoa(t.Char) + " " + strconv.Itoa(t.Low) + " " + strconv.Itoa(t.High)
	}
	if out, ok := known[name]; ok {
		return out
	}
	known[name] = freshSetOf(l, flags)
	return known[name]
}

func freshSetOf(l []api.Token, flags int) []api.Range {
	edges := [][]api.Range{digit, space, words, between(0xa, 0xa)}
	for _, t := range l {
		edges = append(edges, between(t.Char, t.Char, t.Low, t.High))
	}
	if l[0].Kind != 7 {
		return rangesOf(partOf(l[0], flags), edgesOf(edges...))
	}
	var parts []has
	for _, t := range l[1 : len(l)-1] {
		parts = append(parts, partOf(t, flags))
	}
	of := func(c int) bool {
		return slices.ContainsFunc(parts, func(part has) bool { return part(c) })
	}
	if l[0].Char == 1 {
		return rangesOf(turnOf(of), edgesOf(edges...))
	}
	return rangesOf(of, edgesOf(edges...))
}

// openOf: how many are open behind tokens.
func openOf(l []api.Token) int {
	open := 0
	for _, t := range l {
		switch t.Kind {
		case 3:
			open++
		case 4:
			open--
		}
	}
	return open
}

// wrongOf: what is wrong with one token, by the chapter's words; OK, if nothing is wrong ahead of it.
func wrongOf(l []api.Token, i int) api.Errno {
	open := openOf(l[:i])
	switch {
	case l[i].Kind == 4 && open == 0:
		return api.ErrSign
	case l[i].Kind == 6 && (i == 0 || slices.Contains([]int{3, 5, 6, 13}, l[i-1].Kind)):
		return api.ErrSign
	case l[i].Kind == 3 && open == 20:
		return api.ErrDeep
	}
	return api.OK
}

// parseOf: by the chapter's words, of what layer 15 reads.
func parseOf(l []int, flags int) (api.Node, int, api.Errno) {
	if flags < 0 || flags > 7 {
		return api.Node{}, 0, api.ErrFlag
	}
	tokens, at, e := token.Of(l)
	if e != api.OK {
		return api.Node{}, at, e
	}
	for i, t := range tokens {
		if e := wrongOf(tokens, i); e != api.OK {
			return api.Node{}, t.Pos, e
		}
	}
	if openOf(tokens) > 0 {
		return api.Node{}, len(l), api.ErrEnd
	}
	n := orOf(tokens, flags)
	if sizeOf(n).Cmp(big.NewInt(400)) > 0 {
		return api.Node{}, 0, api.ErrSize
	}
	return n, 0, api.OK
}

// orOf: what or-signs part, that stand in no brackets of these tokens.
func orOf(l []api.Token, flags int) api.Node {
	var kids []api.Node
	from := 0
	for i, t := range l {
		if t.Kind == 5 && openOf(l[:i]) == 0 {
			kids = append(kids, joinOf(l[from:i], flags))
			from = i + 1
		}
	}
	kids = append(kids, joinOf(l[from:], flags))
	if len(kids) == 1 {
		return kids[0]
	}
	return api.Node{Kind: 4, Kids: kids}
}

// joinOf: those that stand one behind the other.
func joinOf(l []api.Token, flags int) api.Node {
	var kids []api.Node
	for len(l) > 0 {
		far := farOf(l)
		n := oneOf(l[:far], flags)
		l = l[far:]
		if len(l) > 0 && l[0].Kind == 6 {
			n = api.Node{Kind: 5, Low: l[0].Low, High: l[0].High, Kids: []api.Node{n}}
			l = l[1:]
		}
		if len(l) > 0 && l[0].Kind == 13 {
			l = l[1:]
		}
		kids = append(kids, n)
	}
	switch len(kids) {
	case 0:
		return api.Node{Kind: 1}
	case 1:
		return kids[0]
	}
	return api.Node{Kind: 3, Kids: kids}
}

// farOf: how many tokens belong to the first one: up to what shuts it, or ends its class.
func farOf(l []api.Token) int {
	for i := range l {
		if l[0].Kind == 7 && l[i].Kind != 8 || openOf(l[:i+1]) > 0 {
			continue
		}
		return i + 1
	}
	panic("what is open is never shut")
}

func oneOf(l []api.Token, flags int) api.Node {
	switch l[0].Kind {
	case 3:
		return orOf(l[1:len(l)-1], flags)
	case 10:
		return api.Node{Kind: 6}
	case 11:
		return api.Node{Kind: 7}
	}
	return api.Node{Kind: 2, Ranges: setOf(l, flags)}
}

// sizeOf: a tree's size, however great.
func sizeOf(n api.Node) *big.Int {
	out := new(big.Int)
	for _, kid := range n.Kids {
		out.Add(out, sizeOf(kid))
	}
	if n.Kind == 5 {
		often := big.NewInt(int64(n.High))
		if n.High < 0 {
			often = new(big.Int).Add(big.NewInt(int64(n.Low)), big.NewInt(1))
		}
		if often.Sign() > 0 {
			out.Mul(out, often)
		}
	}
	return out.Add(out, big.NewInt(1))
}

// checkRanges: a call answers these ranges, in this order.
func checkRanges(t *testing.T, call string, got, want []api.Range) {
	t.Helper()
	if !slices.Equal(got, want) {
		t.Errorf("%s: %s, not %s", sample.Head(call), sample.Head(sample.ShowRanges(got)), sample.Head(sample.ShowRanges(want)))
	}
}

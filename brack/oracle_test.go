package brack_test

import (
	"fmt"
	"slices"
	"strings"

	"ductus/api"
	"ductus/sample"
)

var (
	read, show         = sample.Read, sample.Show
	classes, noClasses = sample.Classes(), sample.NoClasses()
	even, odd          = sample.Even(), sample.Odd()
	lefts              = sample.Lefts
)

// Layer 3's brackets, word by word: the one that opens and the one that closes.
var couples = [][2]int{
	{0x28, 0x29}, {0x5b, 0x5d}, {0x7b, 0x7d}, {0x2329, 0x232a}, {0x3008, 0x3009},
	{0x300a, 0x300b}, {0x300c, 0x300d}, {0x300e, 0x300f}, {0x3010, 0x3011},
}

// list is what one asks of: characters, their classes, and those they had at first.
type list struct {
	chars, classes, first []int
}

// one is a character of it.
type one struct {
	char, class, first int
}

// parse: a list that a text tells, each item one: a bracket, which is ON, or has the class behind a colon, as (:L; or the class of an x. One that was NSM at first has a ~ behind it, all others were what they are.
func parse(text string) list {
	var all []one
	for _, item := range strings.Fields(text) {
		item, mark := strings.CutSuffix(item, "~")
		x := one{char: 'x'}
		bracket, class, _ := strings.Cut(item, ":")
		if c := []rune(bracket); len(c) == 1 && isBracket(int(c[0])) {
			x.char, x.class = int(c[0]), api.ON
			if class != "" {
				x.class = read(class)[0]
			}
		} else {
			x.class = read(item)[0]
		}
		x.first = x.class
		if mark {
			x.first = api.NSM
		}
		all = append(all, x)
	}
	return listOf(all)
}

func isBracket(c int) bool {
	return kind(c, 0) >= 0 || kind(c, 1) >= 0
}

func listOf(all []one) list {
	var out list
	for _, x := range all {
		out.chars = append(out.chars, x.char)
		out.classes = append(out.classes, x.class)
		out.first = append(out.first, x.first)
	}
	return out
}

// chosen: the list of some of these, by their places.
func (x list) chosen(places []int) list {
	var out []one
	for _, i := range places {
		out = append(out, one{x.chars[i], x.classes[i], x.first[i]})
	}
	return listOf(out)
}

// String: as parse reads it, where it can.
func (x list) String() string {
	if len(x.chars) != len(x.classes) || len(x.chars) != len(x.first) {
		return fmt.Sprintf("%x, %s, %s", x.chars, show(x.classes), show(x.first))
	}
	var out []string
	for i, c := range x.chars {
		item := show(x.classes[i : i+1])
		switch {
		case isBracket(c) && x.classes[i] == api.ON:
			item = string(rune(c))
		case c != 'x':
			item = fmt.Sprintf("%x:%s", c, item)
		}
		if x.first[i] == api.NSM {
			item += "~"
		}
		out = append(out, item)
	}
	return strings.Join(out, " ")
}

// kind: which couple one opens (end 0) or closes (end 1), those that are the same in two ways being one; -1 of all others.
func kind(c, end int) int {
	n := slices.IndexFunc(couples, func(both [2]int) bool { return both[end] == c })
	if n >= 0 && couples[n][0] == 0x2329 {
		return n + 1
	}
	return n
}

// pairs: what the chapter says of them, with a mark at each place that waits.
func (x list) pairs() [][2]int {
	if len(x.chars) != len(x.classes) {
		return nil
	}
	const waiting = 1
	waits, ends := make([]int, len(x.chars)), make([]int, len(x.chars))
	for i, c := range x.chars {
		if x.classes[i] != api.ON {
			continue
		}
		if kind(c, 0) >= 0 {
			if count(waits, waiting) == 63 {
				break
			}
			waits[i] = waiting
		}
		for j := i - 1; j >= 0 && kind(c, 1) >= 0; j-- {
			if waits[j] == waiting && kind(x.chars[j], 0) == kind(c, 1) {
				ends[j] = i
				clear(waits[j:])
				break
			}
		}
	}
	var out [][2]int
	for i, end := range ends {
		if end > 0 {
			out = append(out, [2]int{i, end})
		}
	}
	return out
}

func count(l []int, n int) int {
	many := 0
	for _, k := range l {
		if k == n {
			many++
		}
	}
	return many
}

// sides: of those that have one, in order.
func sides(l []int) []int {
	var out []int
	for _, k := range l {
		switch k {
		case api.R, api.EN, api.AN:
			out = append(out, api.R)
		case api.L:
			out = append(out, api.L)
		}
	}
	return out
}

// of: the classes behind all pairs, by the chapter's words.
func (x list) of(level, sos int) []int {
	out := slices.Clone(x.classes)
	if len(x.chars) != len(x.classes) || len(x.first) != len(x.classes) {
		return out
	}
	e, o := api.L, api.R
	if level&1 == 1 {
		e, o = o, e
	}
	if sos != api.R {
		sos = api.L
	}
	for _, p := range x.pairs() {
		between := sides(out[p[0]+1 : p[1]])
		ahead := append([]int{sos}, sides(out[:p[0]])...)
		to := e
		switch {
		case slices.Contains(between, e):
		case slices.Contains(between, o) && ahead[len(ahead)-1] == o:
			to = o
		case slices.Contains(between, o):
		default:
			continue
		}
		for _, bracket := range p {
			out[bracket] = to
			for i := range out {
				if x.marks(bracket, i) {
					out[i] = to
				}
			}
		}
	}
	return out
}

// marks: is a place a mark of a bracket?
func (x list) marks(bracket, i int) bool {
	return i > bracket && count(x.first[bracket+1:i+1], api.NSM) == i-bracket
}

package strip_test

import (
	"math"
	"slices"
	"strconv"
	"strings"

	"ductus/api"
)

// What is left out, class by class, as layer 2's chapter has it: not that layer's own answers, so that a test tells when those are wrong.
const outTable = `
BN 0 to 8, e to 1b, 7f to 84, 86 to 9f, ad, 200b to 200d, feff
LRE 202a
LRO 202d
RLE 202b
RLO 202e
PDF 202c
`

// What is kept, class by class: the ends of the chapter's spans, and some that its table doesn't name, which are L.
const keptTable = `
L 41, 5a, 61, 7a, aa, b5, ba, c0, 2ff, 5f5, 6d6, 4e00, 200a, 200e, 2065, 206a, fefe, ff00, fffd, 10ffff
R 5be, 5c0, 5d0 to 5d1, 5f4, 200f
AL 608, 60b, 60d, 61b to 61c, 64a, 66d to 66f, 671, 6d5
EN 30 to 39, b2 to b3, b9, 2070, 2074, 2079
ES 2b, 2d, 2212
ET 23 to 25, a2 to a5, b0 to b1, 609 to 60a, 66a, 2030, 2034, 20a0, 20c0, 2213
AN 600 to 605, 660, 669, 66b to 66c
CS 2c, 2e to 2f, 3a, a0, 60c, 202f
NSM 300, 36f, 591, 5bd, 5bf, 5c1 to 5c2, 610, 61a, 64b, 65f, 670
B a, d, 1c to 1e, 85, 2029
S 9, b, 1f
WS c, 20, 2028
ON 21 to 22, 26 to 2a, 3b, 40, 5b, 60, 7b, 7e, a1, a6, a9, ab to ac, ae to af, b4, b6, b8, bb, bf, d7, f7, 606 to 607, 2010, 2027, 2035, 2043, 2190, 2211, 2214, 2335, 3008, 3011, 1f600, 1f64f
LRI 2066
RLI 2067
FSI 2068
PDI 2069
`

// Numbers that are no characters: they are L, and so kept; some would be left out in 8, 16, 21 or 32 bits, or with their sign turned.
var noCharacters = []int{
	-1, -2, -8, -0xad, -0x7f, -0x202a, -0x202e, -0xfeff, ^0, ^0xad, ^0x202b, -0x100, -0x10000, -api.Top,
	0xd800, 0xd801, 0xdb80, 0xdbff, 0xdc00, 0xdffe, 0xdfff,
	api.Top + 1, api.Top + 2, 0x110000 + 0x202b, 0x1fffff, 0x200000, 0x200000 + 0xad, 0x200000 + 0x202c, 0x7fffffff,
	1 << 31, 1<<31 + 0x202a, 1 << 32, 1<<32 + 0xad, -1 << 32, -1<<32 + 0x202b, 1<<32 + 0x202e, 1<<33 + 0xfeff, 1 << 40, 1 << 62, 1<<62 + 0x200b, -1<<62 + 0x202d,
	math.MaxInt32, math.MinInt32, math.MaxInt, math.MinInt, math.MinInt + 0xad, math.MinInt + 0x202c,
}

// row: a class's name, and characters of it.
type row struct {
	word  string
	chars []int
}

func rows(table string) []row {
	var out []row
	for line := range strings.Lines(strings.TrimSpace(table)) {
		word, items, _ := strings.Cut(strings.TrimSpace(line), " ")
		out = append(out, row{word, each(items)})
	}
	return out
}

// each: all that a text says, as in "0 to 8, ad".
func each(items string) []int {
	var out []int
	for item := range strings.SplitSeq(items, ", ") {
		low, high, more := strings.Cut(item, " to ")
		if !more {
			high = low
		}
		for c := read(low); c <= read(high); c++ {
			out = append(out, c)
		}
	}
	return out
}

func read(text string) int {
	n, err := strconv.ParseInt(text, 16, 0)
	if err != nil {
		panic(err)
	}
	return int(n)
}

// all: the characters of each row.
func all(table string) []int {
	var out []int
	for _, r := range rows(table) {
		out = append(out, r.chars...)
	}
	return out
}

// oracle: which characters are left out, by the chapters' words.
type oracle map[int]bool

func newOracle() oracle {
	o := oracle{}
	for _, c := range all(outTable) {
		o[c] = true
	}
	return o
}

// of: what the chapter's words say of a list.
func (o oracle) of(l []int) said {
	s := said{l: l}
	for i, c := range l {
		if o[c] {
			s.only = append(s.only, c)
		} else {
			s.kept, s.chars = append(s.kept, i), append(s.chars, c)
		}
	}
	return s
}

// same: is what is kept of both the same? One is gone through along the other one, what is left out stepped over.
func (o oracle) same(a, b []int) bool {
	a, b = o.behindOut(a), o.behindOut(b)
	if len(a) == 0 || len(b) == 0 {
		return len(a) == len(b)
	}
	return a[0] == b[0] && o.same(a[1:], b[1:])
}

// behindOut: a list from the first one on that is kept.
func (o oracle) behindOut(l []int) []int {
	i := slices.IndexFunc(l, func(c int) bool { return !o[c] })
	if i < 0 {
		return nil
	}
	return l[i:]
}

// many: of all that the tables name, and of what is no character, what is left out as often as what is kept.
func many() []int {
	out, kept := all(outTable), append(all(keptTable), noCharacters...)
	for len(out) < len(kept) {
		out = append(out, out[:min(len(out), len(kept)-len(out))]...)
	}
	return append(out, kept...)
}

package fold_test

import (
	"math"
	"slices"
	"strconv"
	"strings"

	"ductus/api"
)

// The chapter's words of what is folded, as they stand there: the calls are held against them.
const (
	more20 = "41 to 5A, C0 to D6, D8 to DE, 391 to 3A1, 3A3 to 3A9, 410 to 42F"
	more50 = "400 to 40F"
	alone  = "B5 is 3BC, 3C2 is 3C3, 1E9E is DF"
)

// Characters that are folded nowhere, though some are great, or have a great one elsewhere.
var ordinary = []int{
	0, '\t', '\n', ' ', '!', '(', '0', '1', '9', ':', '@', '[', '`', '{', 0x7f, 0x80, 0xa0, 0xaa, 0xad, 0xb4, 0xb6, 0xba, 0xbf, 0xd7, 0xf7, 0xff,
	0x100, 0x101, 0x130, 0x131, 0x149, 0x178, 0x17f, 0x1c5, 0x345, 0x370, 0x386, 0x388, 0x390, 0x3a2, 0x3aa, 0x3ab, 0x3ac, 0x3b0, 0x3ca, 0x3cb, 0x3d0, 0x3d1, 0x3d5, 0x3d6, 0x3f0, 0x3f1, 0x3f4, 0x3f9,
	0x460, 0x461, 0x48a, 0x531, 0x561, 0x5d0, 0x5ea, 0x627, 0x660, 0x10a0, 0x13a0, 0x1e00, 0x1e9d, 0x1e9f, 0x1ea0, 0x1f08, 0x200e, 0x200f, 0x2066, 0x2069, 0x2126, 0x212a, 0x212b, 0x2160, 0x24b6,
	0x3008, 0x4e00, 0xa640, 0xd7ff, 0xe000, 0xfb00, 0xfeff, 0xff21, 0xff41, api.Bad, 0xffff, 0x10000, 0x10041, 0x10400, 0x1f600, 0x100041, api.Top,
}

// Numbers that are no characters; some would be folded in 8, 16, 21 or 32 bits.
var noCharacters = []int{
	-1, -2, -5, -0x20, -0x50, -'A', -'a', -0xb5, -0x3c2, -0x1e9e, ^'A', 'A' - 0x100, 'A' - 0x10000, -api.Top,
	0xd800, 0xd801, 0xd841, 0xdbff, 0xdc00, 0xdffe, 0xdfff,
	api.Top + 1, api.Top + 2, 0x110041, 0x1fffff, 0x200000 + 'A', 0x200000 + 0x1e9e, 0x7fffffff,
	1 << 31, 1<<31 + 'A', 1 << 32, 1<<32 + 'A', -1<<32 + 'A', 1<<32 + 0x3c2, -1<<32 + 0xb5, 1 << 40, 1<<62 + 'Z', 1<<63 - 0x1e9e,
	math.MaxInt32, math.MinInt32, math.MaxInt, math.MinInt, math.MaxInt - 0x50, math.MinInt + 0x50, math.MinInt + 0x1f, math.MinInt + 0x41,
}

func read(text string) int {
	n, err := strconv.ParseInt(text, 16, 0)
	if err != nil {
		panic(err)
	}
	return int(n)
}

// twos: what a text says, two by two, as in "41 to 5A, C0 to D6".
func twos(text, between string) [][2]int {
	var out [][2]int
	for item := range strings.SplitSeq(text, ", ") {
		a, b, _ := strings.Cut(item, between)
		out = append(out, [2]int{read(a), read(b)})
	}
	return out
}

// becomes: what each character that isn't itself is folded into, by the chapter's words.
func becomes() map[int]int {
	out := map[int]int{}
	for _, x := range twos(more20, " to ") {
		for c := x[0]; c <= x[1]; c++ {
			out[c] = c + 0x20
		}
	}
	for _, x := range twos(more50, " to ") {
		for c := x[0]; c <= x[1]; c++ {
			out[c] = c + 0x50
		}
	}
	for _, x := range twos(alone, " is ") {
		out[x[0]] = x[1]
	}
	return out
}

// oracle: what is said of each number of which the chapter says anything: what it is folded into, and what else is folded into that.
type oracle struct {
	into map[int]int
	kin  map[int][]int
}

func newOracle() oracle {
	o := oracle{becomes(), map[int][]int{}}
	for c, to := range o.into {
		o.kin[to] = append(o.kin[to], c)
	}
	for to, l := range o.kin {
		l = append(l, to)
		slices.Sort(l)
		o.kin[to] = l
	}
	return o
}

func (o oracle) of(c int) int {
	if to, ok := o.into[c]; ok {
		return to
	}
	return c
}

func (o oracle) kinOf(c int) []int {
	if l, ok := o.kin[o.of(c)]; ok {
		return l
	}
	return []int{c}
}

// ends: the first and the last character of each range that is folded, and those that are folded alone.
func ends() []int {
	var out []int
	for _, x := range twos(more20+", "+more50, " to ") {
		out = append(out, x[0], x[1])
	}
	for _, x := range twos(alone, " is ") {
		out = append(out, x[0])
	}
	return out
}

// asked: the ends, what they are folded into, what stands beside each of these, ordinary characters, and what is no character.
func asked() []int {
	into := becomes()
	var out []int
	for _, c := range ends() {
		for _, x := range []int{c, into[c]} {
			out = append(out, x-2, x-1, x, x+1, x+2)
		}
	}
	out = append(out, ordinary...)
	return append(out, noCharacters...)
}

package pair_test

import (
	"math"
	"strconv"
	"strings"

	"ductus/api"
)

// The chapter's brackets, and what else is mirrored, word by word: the calls are held against them.
const (
	bracketWords = "28 29, 5B 5D, 7B 7D, 2329 232A, 3008 3009, 300A 300B, 300C 300D, 300E 300F, 3010 3011"
	signWords    = "3C 3E, AB BB, 2264 2265, 226A 226B"
)

// Characters that are neither brackets nor mirrored; some look as if they were.
var ordinary = []int{
	0, '\t', '\n', ' ', '!', '/', '\\', '|', '=', '\'', '"', '0', '9', 'a', 'z', 'A', 'Z', 0x7f, 0x80, 0xa0, 0xad,
	0x5d0, 0x5ea, 0x627, 0x660, 0x200e, 0x200f, 0x2018, 0x2019, 0x201c, 0x201d, 0x2039, 0x203a, 0x2045, 0x2046, 0x207d, 0x207e, 0x208d, 0x208e,
	0x2066, 0x2067, 0x2068, 0x2069, 0x2208, 0x220b, 0x2260, 0x2266, 0x2267, 0x226e, 0x226f, 0x2308, 0x2309, 0x230a, 0x230b, 0x2768, 0x2769, 0x27e8, 0x27e9, 0x29fc, 0x29fd,
	0x3000, 0x3012, 0x3014, 0x3015, 0x3016, 0x3017, 0x3018, 0x3019, 0x301a, 0x301b, 0x301d, 0x301e, 0x4e00, 0xfe59, 0xfe5a, 0xff08, 0xff09, 0xff1c, 0xff1e, 0xff3b, 0xff3d,
	0xd7ff, 0xe000, api.Bad, 0xffff, 0x10000, 0x10028, 0x1f600, api.Top,
}

// Numbers that are no characters; some would be brackets in 8, 16, 21 or 32 bits.
var noCharacters = []int{
	-1, -2, -'(', -')', -'<', -0x3008, -0x2329, -api.Top,
	0xd800, 0xd801, 0xdbff, 0xdc00, 0xdffe, 0xdfff,
	api.Top + 1, api.Top + 2, 0x1fffff, 0x200000 + 0x3008, 0x7fffffff,
	1 << 31, 1<<31 + '(', 1 << 32, 1<<32 + '(', -1<<32 + ')', 1<<32 + 0x2329, -1<<32 + 0x232a, 1<<62 + '<',
	math.MaxInt32, math.MinInt32, math.MaxInt, math.MinInt,
}

// couples: what a text says, two by two.
func couples(text string) [][2]int {
	var out [][2]int
	for item := range strings.SplitSeq(text, ", ") {
		a, b, _ := strings.Cut(item, " ")
		out = append(out, [2]int{read(a), read(b)})
	}
	return out
}

func read(text string) int {
	n, err := strconv.ParseInt(text, 16, 0)
	if err != nil {
		panic(err)
	}
	return int(n)
}

// fact: what the chapter says of one number.
type fact struct {
	other     int
	opens, is bool
	mirror    int
	mirrored  bool
}

// facts: of each number of which the chapter says anything.
func facts() map[int]fact {
	out := map[int]fact{}
	for _, x := range couples(bracketWords) {
		out[x[0]] = fact{other: x[1], opens: true, is: true, mirror: x[1], mirrored: true}
		out[x[1]] = fact{other: x[0], is: true, mirror: x[0], mirrored: true}
	}
	for _, x := range couples(signWords) {
		out[x[0]] = fact{mirror: x[1], mirrored: true}
		out[x[1]] = fact{mirror: x[0], mirrored: true}
	}
	return out
}

// factOf: what the chapter says of c; of most, that it is nothing and stays what it is.
func factOf(c int, all map[int]fact) fact {
	if f, ok := all[c]; ok {
		return f
	}
	return fact{mirror: c}
}

// told: the brackets, the one that opens ahead of the one that closes, then the other mirrored signs.
func told() []int {
	var out []int
	for _, x := range append(couples(bracketWords), couples(signWords)...) {
		out = append(out, x[0], x[1])
	}
	return out
}

// asked: all that is told, what stands beside each, ordinary characters, and what is no character.
func asked() []int {
	var out []int
	for _, c := range told() {
		out = append(out, c-2, c-1, c, c+1, c+2)
	}
	out = append(out, ordinary...)
	return append(out, noCharacters...)
}

package level_test

import (
	"fmt"
	"math"
	"slices"
	"strconv"
	"strings"

	"ductus/api"
	"ductus/sample"
)

var (
	read = sample.Read
	// Directions that are asked for: two that say what the base is, and those that look for it.
	given  = []int{api.DirLeft, api.DirRight}
	looked = []int{
		api.DirAuto, 3, 4, 16, 255, 256, 256 + api.DirLeft, -1, -2, 1<<16 + api.DirRight, 1<<32 + api.DirLeft, 1<<32 + api.DirRight, -1 << 32,
		math.MaxInt32, math.MinInt32, math.MaxInt, math.MinInt,
	}
	dirs = slices.Concat(looked[:1], given)
)

// Of each class some characters, out of layer 2's table, word by word; where a text names the class, the first one stands there. What isn't a character is an L.
var letters = [][]int{
	api.L: {'a', 'Z', 0xb5, 0x3b1, 0x4e00, 0xd800, api.Bad, api.Top, api.Top + 1, -1, 1<<32 + 0x5d0, math.MaxInt, math.MinInt},
	api.R: {0x5d0, 0x5be, 0x5f4, 0x200f}, api.AL: {0x627, 0x608, 0x66d, 0x6d5},
	api.EN: {'1', '0', '9', 0xb2, 0x2079}, api.ES: {'+', '-', 0x2212}, api.ET: {'$', '%', 0xb0, 0x66a, 0x20ac}, api.AN: {0x661, 0x600, 0x66b}, api.CS: {',', '.', '/', ':', 0xa0, 0x60c},
	api.NSM: {0x301, 0x591, 0x64b, 0x670}, api.BN: {0xad, 0, 0x7f, 0x200b, 0xfeff}, api.B: {'\n', '\r', 0x1c, 0x85, 0x2029}, api.S: {'\t', 0xb, 0x1f}, api.WS: {' ', 0xc, 0x2028},
	api.ON:  {'!', '<', '>', 0xab, 0xbb, 0x2264, 0x2190, 0x1f600},
	api.LRE: {0x202a}, api.LRO: {0x202d}, api.RLE: {0x202b}, api.RLO: {0x202e}, api.PDF: {0x202c},
	api.LRI: {0x2066}, api.RLI: {0x2067}, api.FSI: {0x2068}, api.PDI: {0x2069},
}

// Layer 3's brackets, the one that opens and the one that closes; all of them are ON. Two couples that stand in one row are one bracket.
var couples = [][][2]int{
	{{'(', ')'}}, {{'[', ']'}}, {{'{', '}'}}, {{0x2329, 0x232a}, {0x3008, 0x3009}},
	{{0x300a, 0x300b}}, {{0x300c, 0x300d}}, {{0x300e, 0x300f}}, {{0x3010, 0x3011}},
}

// bracket: which one a character is, and whether it opens (0) or closes (1); -1 of what is none.
func bracket(c int) (kind, end int) {
	for kind, row := range couples {
		for _, couple := range row {
			if end := slices.Index(couple[:], c); end >= 0 {
				return kind, end
			}
		}
	}
	return -1, 0
}

// classOf: a character's class, if it is one of these; all others are L.
func classOf(c int) int {
	if kind, _ := bracket(c); kind >= 0 {
		return api.ON
	}
	return max(0, slices.IndexFunc(letters, func(l []int) bool { return slices.Contains(l, c) }))
}

// all: each of the letters, and each bracket.
func all() []int {
	out := slices.Concat(letters...)
	for _, row := range couples {
		for _, couple := range row {
			out = append(out, couple[:]...)
		}
	}
	return out
}

// write: the characters of a text that names classes, or brackets; each may say how often it stands there, as in "RLE*63 ( L )".
func write(text string) []int {
	var out []int
	for _, item := range strings.Fields(text) {
		name, count, often := strings.Cut(item, "*")
		n := 1
		if often {
			n = read(count)[0]
		}
		out = append(out, slices.Repeat([]int{letter(name)}, n)...)
	}
	return out
}

func letter(name string) int {
	if c := []rune(name); len(c) == 1 {
		if kind, _ := bracket(int(c[0])); kind >= 0 {
			return int(c[0])
		}
	}
	return letters[read(name)[0]][0]
}

// show: characters as write reads them, where it can; else as numbers.
func show(chars []int) string {
	var out []string
	for _, c := range chars {
		kind, _ := bracket(c)
		switch k := classOf(c); {
		case kind >= 0:
			out = append(out, string(rune(c)))
		case letters[k][0] == c:
			out = append(out, sample.Show([]int{k}))
		default:
			out = append(out, fmt.Sprintf("%#x", c))
		}
	}
	return head(out)
}

// numbers: levels as read reads them.
func numbers(l []int) string {
	var out []string
	for _, n := range l {
		out = append(out, strconv.Itoa(n))
	}
	return head(out)
}

// head: of a very long list the beginning.
func head(l []string) string {
	if most := 200; len(l) > most {
		return strings.Join(l[:most], " ") + " ..."
	}
	return strings.Join(l, " ")
}

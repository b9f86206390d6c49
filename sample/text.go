package sample

import (
	"math"
	"slices"
	"strconv"
	"strings"

	"ductus/api"
)

// Of each class some characters, out of layer 2's table, word by word; where a text names the class, the first one stands there. What isn't a character is an L.
var letters = [...][]int{
	api.L: {'a', 'Z', 0xb5, 0x3b1, 0x4e00, 0xd800, api.Bad, api.Top, api.Top + 1, -1, 1<<32 + 0x5d0, math.MaxInt, math.MinInt},
	api.R: {0x5d0, 0x5be, 0x5f4, 0x200f}, api.AL: {0x627, 0x608, 0x66d, 0x6d5},
	api.EN: {'1', '0', '9', 0xb2, 0x2079}, api.ES: {'+', '-', 0x2212}, api.ET: {'$', '%', 0xb0, 0x66a, 0x20ac}, api.AN: {0x661, 0x600, 0x66b}, api.CS: {',', '.', '/', ':', 0xa0, 0x60c},
	api.NSM: {0x301, 0x591, 0x64b, 0x670}, api.BN: {0xad, 0, 0x7f, 0x200b, 0xfeff}, api.B: {'\n', '\r', 0x1c, 0x85, 0x2029}, api.S: {'\t', 0xb, 0x1f}, api.WS: {' ', 0xc, 0x2028},
	api.ON:  {'!', '<', '>', 0xab, 0xbb, 0x2264, 0x2190, 0x1f600},
	api.LRE: {0x202a}, api.LRO: {0x202d}, api.RLE: {0x202b}, api.RLO: {0x202e}, api.PDF: {0x202c},
	api.LRI: {0x2066}, api.RLI: {0x2067}, api.FSI: {0x2068}, api.PDI: {0x2069},
}

// Layer 3's brackets, the one that opens and the one that closes; all of them are ON. Two couples that stand in one row are one bracket.
var couples = [...][][2]int{
	{{'(', ')'}}, {{'[', ']'}}, {{'{', '}'}}, {{0x2329, 0x232a}, {0x3008, 0x3009}},
	{{0x300a, 0x300b}}, {{0x300c, 0x300d}}, {{0x300e, 0x300f}}, {{0x3010, 0x3011}},
}

// Letters: of each class some characters.
func Letters() [][]int {
	var out [][]int
	for _, l := range letters {
		out = append(out, slices.Clone(l))
	}
	return out
}

// Couples: of each bracket which one opens and which one closes, in each way that it has.
func Couples() [][][2]int {
	var out [][][2]int
	for _, row := range couples {
		out = append(out, slices.Clone(row))
	}
	return out
}

// All: each of the letters, and each bracket.
func All() []int {
	out := slices.Concat(Letters()...)
	for _, row := range couples {
		for _, couple := range row {
			out = append(out, couple[0], couple[1])
		}
	}
	return out
}

// Bracket: which one a character is, and whether it opens (0) or closes (1); -1 of what is none.
func Bracket(c int) (kind, end int) {
	for kind, row := range couples {
		for _, couple := range row {
			for end, b := range couple {
				if b == c {
					return kind, end
				}
			}
		}
	}
	return -1, 0
}

// ClassOf: a letter's class, and a bracket's; all others are L.
func ClassOf(c int) int {
	for k, row := range letters {
		for _, l := range row {
			if l == c {
				return k
			}
		}
	}
	if kind, _ := Bracket(c); kind >= 0 {
		return api.ON
	}
	return api.L
}

// Write: the characters of a text that names classes, or brackets; each may say how often it stands there, as in "RLE*63 ( L )".
func Write(text string) []int {
	var out []int
	for _, item := range strings.Fields(text) {
		name, count, often := strings.Cut(item, "*")
		n := 1
		if often {
			n = number(count)
		}
		out = append(out, slices.Repeat([]int{writeOne(name)}, n)...)
	}
	return out
}

func writeOne(name string) int {
	if c := []rune(name); len(c) == 1 {
		if kind, _ := Bracket(int(c[0])); kind >= 0 {
			return int(c[0])
		}
	}
	return letters[readOne(name)][0]
}

// Text: characters as Write reads them, where it can; else as numbers, and of very many the beginning.
func Text(chars []int) string {
	var out []string
	for _, c := range chars {
		kind, _ := Bracket(c)
		switch k := ClassOf(c); {
		case kind >= 0:
			out = append(out, string(rune(c)))
		case letters[k][0] == c:
			out = append(out, Show([]int{k}))
		default:
			out = append(out, "0x"+strconv.FormatInt(int64(c), 16))
		}
	}
	return head(out)
}

// Numbers: levels, and other numbers, as Read reads them, of very many the beginning.
func Numbers(l []int) string {
	var out []string
	for _, n := range l {
		out = append(out, strconv.Itoa(n))
	}
	return head(out)
}

// Words: classes as Show shows them, of very many the beginning.
func Words(l []int) string {
	return head(strings.Fields(Show(l)))
}

// head: of a very long list the beginning.
func head(l []string) string {
	if most := 200; len(l) > most {
		return strings.Join(l[:most], " ") + " ..."
	}
	return strings.Join(l, " ")
}

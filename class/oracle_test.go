package class_test

import (
	"strconv"
	"strings"
)

// The chapter's table, word by word: the calls are held against it.
const table = `
| R 1 | 5be, 5c0, 5d0 to 5f4, 200f |
| AL 2 | 608, 60b, 60d, 61b to 64a, 66d to 66f, 671 to 6d5 |
| EN 3 | 30 to 39, b2 to b3, b9, 2070, 2074 to 2079 |
| ES 4 | 2b, 2d, 2212 |
| ET 5 | 23 to 25, a2 to a5, b0 to b1, 609 to 60a, 66a, 2030 to 2034, 20a0 to 20c0, 2213 |
| AN 6 | 600 to 605, 660 to 669, 66b to 66c |
| CS 7 | 2c, 2e to 2f, 3a, a0, 60c, 202f |
| NSM 8 | 300 to 36f, 591 to 5bd, 5bf, 5c1 to 5c2, 610 to 61a, 64b to 65f, 670 |
| BN 9 | 0 to 8, e to 1b, 7f to 84, 86 to 9f, ad, 200b to 200d, feff |
| B 10 | a, d, 1c to 1e, 85, 2029 |
| S 11 | 9, b, 1f |
| WS 12 | c, 20, 2028 |
| ON 13 | 21 to 22, 26 to 2a, 3b to 40, 5b to 60, 7b to 7e, a1, a6 to a9, ab to ac, ae to af, b4, b6 to b8, bb to bf, d7, f7, 606 to 607, 2010 to 2027, 2035 to 2043, 2190 to 2211, 2214 to 2335, 3008 to 3011, 1f600 to 1f64f |
| LRE 14 | 202a |
| LRO 15 | 202d |
| RLE 16 | 202b |
| RLO 17 | 202e |
| PDF 18 | 202c |
| LRI 19 | 2066 |
| RLI 20 | 2067 |
| FSI 21 | 2068 |
| PDI 22 | 2069 |
`

// span: the characters from low to high, both with it, are of a class.
type span struct {
	low, high, class int
	word             string
}

// spans: the table's, in its order.
func spans() []span {
	var out []span
	for row := range strings.Lines(strings.TrimSpace(table)) {
		cells := strings.Split(row, "|")
		word, number, _ := strings.Cut(strings.TrimSpace(cells[1]), " ")
		for item := range strings.SplitSeq(cells[2], ",") {
			low, high, more := strings.Cut(strings.TrimSpace(item), " to ")
			if !more {
				high = low
			}
			out = append(out, span{read(low, 16), read(high, 16), read(number, 10), word})
		}
	}
	return out
}

func read(text string, base int) int {
	n, err := strconv.ParseInt(text, base, 0)
	if err != nil {
		panic(err)
	}
	return int(n)
}

// classOf: a character's class by the table's spans; L of all others.
func classOf(c int, all []span) int {
	for _, x := range all {
		if x.low <= c && c <= x.high {
			return x.class
		}
	}
	return 0
}

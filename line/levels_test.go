package line_test

import (
	"math"
	"slices"
	"strings"
	"testing"

	"ductus/api"
	"ductus/sample"
)

// Bases: both that there are, and numbers that are none.
var bases = []int{0, 1, 2, 3, 125, 126, 127, 256, -1, -2, 1 << 32, 1<<32 + 1, math.MaxInt, math.MinInt}

// said: what becomes of a text's places from one up to another one: "." of one that keeps its level, "b" of one that gets the base.
type said struct {
	text     string
	from, to int
	told     string
}

func (s said) check(t *testing.T) {
	t.Helper()
	chars := write(s.text)
	told := strings.Fields(s.told)
	for _, levels := range [][]int{rising(len(chars)), slices.Repeat([]int{5}, len(chars)), slices.Repeat([]int{0}, len(chars)), slices.Repeat([]int{1}, len(chars))} {
		for _, base := range bases {
			var want []int
			for i, sign := range told {
				if sign == "b" {
					want = append(want, base)
				} else {
					want = append(want, levels[s.from+i])
				}
			}
			checkLevels(t, chars, levels, base, api.Span{From: s.from, To: s.to}, want)
		}
	}
}

// checkWhole: what becomes of a text that is one line.
func checkWhole(t *testing.T, text, told string) {
	t.Helper()
	said{text, 0, len(write(text)), told}.check(t)
}

// P13.1: lines of all kinds, told in full.
func TestLevels(t *testing.T) {
	for text, told := range map[string]string{
		"": "", "L": ".", "R": ".", "WS": "b", "B": "b", "S": "b", "PDI": "b", "BN": "b", "ON": ".", "L R EN": ". . .", "L WS R": ". . .",
		// At the line's end.
		"L WS": ". b", "L WS WS": ". b b", "L WS R WS": ". . . b", "L PDI WS RLI": ". b b b", "L PDF": ". b", "L BN WS PDF": ". b b b", "R RLI R PDI": ". . . b", "L WS ON": ". . .", "L WS NSM": ". . .", "L WS EN WS WS": ". . . b b", "L WS CS": ". . .",
		// Right ahead of an S, and of a B.
		"L S R": ". b .", "L WS S R": ". b b .", "L WS WS S WS R": ". b b b . .", "L WS R S R": ". . . b .", "S L": "b .", "S WS L": "b . .", "WS S L": "b b .", "L PDF BN S R": ". b b b .", "L PDI S": ". b b",
		"L B R": ". b .", "L WS B R": ". b b .", "L WS B": ". b b", "B L": "b .", "B WS L": "b . .", "WS B L": "b b .", "L RLI LRI B R": ". b b b .", "L WS R B WS R": ". . . b . .",
		// Several of them.
		"S S": "b b", "B B L": "b b .", "L S S R": ". b b .", "L S WS S R": ". b b b .", "L S WS R S R": ". b . . b .", "L WS S WS B WS": ". b b b b b", "L S L S L": ". b . b .", "WS S L WS B R WS": "b b . b b . b", "L B S R": ". b b .", "L S B R": ". b b .",
		// Of what is white alone.
		"WS WS WS": "b b b", "RLI PDI": "b b", "BN BN": "b b", "LRE RLE LRO RLO PDF": "b b b b b", "LRI FSI WS BN PDF PDI": "b b b b b b", "WS S WS B WS": "b b b b b",
		// In the middle, white ones stay, and so do those that embed, and isolate.
		"L WS WS R": ". . . .", "RLE L PDF R": ". . . .", "RLI L PDI R": ". . . .", "L BN R": ". . .", "WS L": ". .", "FSI WS L": ". . .", "L RLI WS PDI BN R": ". . . . . .", "RLI R WS PDI WS R": ". . . . . .", "LRO RLO L": ". . .", "BN WS PDF PDI ON": ". . . . .",
	} {
		checkWhole(t, text, told)
	}
}

// P13.1: a line ends where it ends: what is white there gets the base, whatever stands behind it; what is white ahead of the line, or behind it, says nothing.
func TestLevelsOfPart(t *testing.T) {
	text := "WS L WS WS R S WS EN PDI B WS L BN"
	for _, x := range []struct {
		from, to int
		told     string
	}{
		{0, 13, ". . . . . b . . b b . . b"},
		// At the beginning.
		{0, 1, "b"}, {0, 2, ". ."}, {0, 3, ". . b"}, {0, 4, ". . b b"}, {0, 5, ". . . . ."}, {0, 6, ". . . . . b"}, {0, 7, ". . . . . b b"}, {0, 8, ". . . . . b . ."}, {0, 9, ". . . . . b . . b"}, {0, 12, ". . . . . b . . b b . ."},
		// In the middle.
		{1, 2, "."}, {2, 4, "b b"}, {3, 4, "b"}, {2, 5, ". . ."}, {3, 6, ". . b"}, {4, 5, "."}, {4, 6, ". b"}, {5, 6, "b"}, {5, 7, "b b"}, {6, 7, "b"}, {6, 8, ". ."}, {6, 9, ". . b"}, {7, 9, ". b"}, {8, 9, "b"}, {8, 10, "b b"}, {9, 11, "b b"}, {9, 12, "b . ."}, {10, 11, "b"}, {10, 12, ". ."}, {1, 7, ". . . . b b"},
		// At the end.
		{12, 13, "b"}, {11, 13, ". b"}, {10, 13, ". . b"}, {9, 13, "b . . b"}, {5, 13, "b . . b b . . b"}, {2, 13, ". . . b . . b b . . b"},
	} {
		said{text, x.from, x.to, x.told}.check(t)
	}
	// Of each that is white some ahead of the line, within it, and behind it.
	for _, k := range whites {
		text := strings.ReplaceAll("x*3 L x*3 R x*3", "x", sample.Show([]int{k}))
		for _, x := range []struct {
			from, to int
			told     string
		}{
			{0, 11, ". . . . . . . . b b b"}, {0, 3, "b b b"}, {1, 2, "b"}, {2, 4, ". ."}, {3, 5, ". b"}, {1, 6, ". . . b b"}, {3, 7, ". b b b"}, {4, 7, "b b b"}, {5, 6, "b"}, {4, 8, ". . . ."}, {6, 9, ". . b"}, {7, 10, ". b b"}, {8, 11, "b b b"}, {9, 10, "b"},
		} {
			said{text, x.from, x.to, x.told}.check(t)
		}
	}
}

// P13.1: an empty line has no levels, wherever it is; nor has one that isn't within the text.
func TestNoLine(t *testing.T) {
	for _, text := range []string{"", "L", "WS", "L WS R", "S WS B WS L"} {
		chars := write(text)
		n := len(chars)
		none := func(from, to int) {
			t.Helper()
			for _, base := range bases {
				checkLevels(t, chars, rising(n), base, api.Span{From: from, To: to}, nil)
			}
		}
		for i := range n + 1 {
			none(i, i)
		}
		for _, low := range below {
			for i := range n + 1 {
				// Beginning below 0, ending below 0, and both.
				none(low, i)
				none(i, low)
				none(low, low)
				none(low, n+1)
			}
		}
		for _, high := range []int{n + 1, n + 2, n + 4000, 1 << 31, 1 << 32, 1<<32 + n, math.MaxInt} {
			for i := range n + 1 {
				// Ending above the text, beginning above it, and both.
				none(i, high)
				none(high, i)
				none(high, high)
				none(-1, high)
			}
		}
		for from := range n + 1 {
			for to := range from {
				none(from, to)
			}
		}
	}
}

// P13.1: there are none unless there are as many levels as characters, though the line be within both.
func TestOtherManyLevels(t *testing.T) {
	for _, text := range []string{"", "L", "WS", "L WS R S WS"} {
		chars := write(text)
		for many := range len(chars) + 4 {
			for from := range many + 1 {
				for to := from; to <= many; to++ {
					want := []int(nil)
					if many == len(chars) {
						want = levelsOf(chars, rising(many), 1, api.Span{From: from, To: to})
					}
					checkLevels(t, chars, rising(many), 1, api.Span{From: from, To: to}, want)
				}
			}
		}
	}
	checkLevels(t, write("L L"), nil, 0, api.Span{From: 0, To: 2}, nil)
	checkLevels(t, nil, []int{1, 2}, 0, api.Span{From: 0, To: 2}, nil)
	checkLevels(t, nil, []int{1, 2}, 0, api.Span{}, nil)
	checkLevels(t, nil, nil, 1, api.Span{}, nil)
	checkLevels(t, []int{}, []int{}, 1, api.Span{}, nil)
	checkLevels(t, nil, nil, 1, api.Span{From: 0, To: 1}, nil)
	checkLevels(t, write("L L"), rising(1<<16), 0, api.Span{From: 0, To: 2}, nil)
}

// places: signs of those where a character of a class stands for x, in a text of which the others are told.
func places(t *testing.T, k int, text, white, separates, other string) {
	t.Helper()
	told := other
	switch {
	case slices.Contains(separating, k):
		told = separates
	case slices.Contains(whites, k):
		told = white
	}
	for _, c := range sample.All() {
		if sample.ClassOf(c) != k {
			continue
		}
		chars := write(strings.ReplaceAll(text, "x", "LRE"))
		for i := range chars {
			if chars[i] == 0x202a {
				chars[i] = c
			}
		}
		levels := rising(len(chars))
		want := slices.Clone(levels)
		for i, sign := range strings.Fields(told) {
			if sign == "b" {
				want[i] = -3
			}
		}
		checkLevels(t, chars, levels, -3, api.Span{From: 0, To: len(chars)}, want)
	}
}

// P13.1: each class, in each of its characters, at the line's end, right ahead of an S and of a B, behind these, and in the middle.
func TestEachClass(t *testing.T) {
	for _, k := range sample.Classes() {
		places(t, k, "x", "b", "b", ".")
		places(t, k, "L x", ". b", ". b", ". .")
		places(t, k, "L WS x", ". b b", ". b b", ". . .")
		places(t, k, "L x WS", ". b b", ". b b", ". . b")
		places(t, k, "L x S R", ". b b .", ". b b .", ". . b .")
		places(t, k, "L x B R", ". b b .", ". b b .", ". . b .")
		places(t, k, "L WS x WS S R", ". b b b b .", ". b b b b .", ". . . b b .")
		places(t, k, "L WS x WS B R", ". b b b b .", ". b b b b .", ". . . b b .")
		places(t, k, "L x R", ". . .", ". b .", ". . .")
		places(t, k, "x R", ". .", "b .", ". .")
		places(t, k, "R WS x WS L", ". . . . .", ". b b . .", ". . . . .")
		places(t, k, "S x R", "b . .", "b b .", "b . .")
		places(t, k, "B x R", "b . .", "b b .", "b . .")
		places(t, k, "x x x", "b b b", "b b b", ". . .")
		places(t, k, "L x PDI x", ". b b b", ". b b b", ". . . .")
	}
}

// P13.1: what is white of unlike kinds, one behind the other: each order of each three, at the line's end, right ahead of an S and of a B, and in the middle.
func TestUnlikeWhites(t *testing.T) {
	for kinds := range sample.Every(whites, 3) {
		text := sample.Show(kinds)
		b, stays := strings.Repeat(" b", len(kinds)), strings.Repeat(" .", len(kinds))
		checkWhole(t, text, b)
		checkWhole(t, "L "+text, "."+b)
		checkWhole(t, "L "+text+" S R", "."+b+" b .")
		checkWhole(t, "R "+text+" B L", "."+b+" b .")
		checkWhole(t, "L "+text+" R", "."+stays+" .")
		checkWhole(t, text+" ON "+text, stays+" ."+b)
		checkWhole(t, "S "+text+" EN S "+text, "b"+stays+" . b"+b)
		checkWhole(t, "L S "+text+" S R", ". b"+b+" b .")
	}
	all := sample.Show(whites)
	checkWhole(t, "L "+all+" R "+all+" S "+all+" AN "+all+" B "+all, "."+strings.Repeat(" .", 11)+" ."+strings.Repeat(" b", 12)+strings.Repeat(" .", 11)+" ."+strings.Repeat(" b", 23))
}

package line_test

import (
	"math"
	"slices"
	"testing"

	"ductus/api"
	"ductus/level"
	"ductus/line"
	"ductus/sample"
)

// P13.1: every short text of some classes, at each line within it.
func TestShortTexts(t *testing.T) {
	for _, x := range []struct {
		text string
		most int
	}{
		{"L R AL EN ES ET AN CS NSM BN B S WS ON LRE LRO RLE RLO PDF LRI RLI FSI PDI", 3}, {"L WS S B PDI BN", 5}, {"R RLI PDF S", 6}, {"ON WS B", 7},
	} {
		for chars := range sample.Every(write(x.text), x.most) {
			levels := rising(len(chars))
			for from := range len(chars) + 1 {
				for to := from; to <= len(chars); to++ {
					checkOracle(t, chars, levels, 1, api.Span{From: from, To: to})
				}
			}
		}
	}
}

// mixtures: what is often met in mixed texts.
var mixtures = []string{
	"L", "L R WS", "WS S B L", "WS WS WS PDI R", "LRE RLE LRO RLO PDF BN L WS", "LRI RLI FSI PDI WS R S", "EN AN ES ET CS NSM ON WS", "S S B WS", "L R AL EN WS RLI PDI S BN B", "BN BN PDF B",
}

// mixed: so many texts of each mixture, of up to so many characters: each letter, each bracket, and those that are often met.
func mixed(many, most int, yield func(n int, chars []int)) {
	n := 0
	for _, text := range mixtures {
		for chars := range sample.MixedOf(append(sample.All(), slices.Repeat(write(text), 40)...), many, most) {
			yield(n, chars)
			n++
		}
	}
}

// P13.1: mixed texts of all kinds, at each of some lines, within the text and not, with levels of each place's own, mixed ones, and any base.
func TestMixedTexts(t *testing.T) {
	someLevels := slices.Concat(sample.Even(), sample.Odd())
	mixed(300, 60, func(n int, chars []int) {
		levels := make([]int, len(chars))
		for i := range levels {
			levels[i] = someLevels[(n+i*i)%len(someLevels)]
		}
		base := bases[n%len(bases)]
		whole := api.Span{From: 0, To: len(chars)}
		checkOracle(t, chars, levels, base, whole)
		checkOracle(t, chars, append(levels, 1), base, whole)
		for k := range 12 {
			from, to := (n*7+k*13)%(len(chars)+1), (n*3+k*17)%(len(chars)+1)
			checkOracle(t, chars, levels, base, api.Span{From: from, To: to})
			checkOracle(t, chars, rising(len(chars)), base, api.Span{From: min(from, to), To: max(from, to)})
			checkOracle(t, chars, levels, base, api.Span{From: from - 3, To: to + 3})
		}
	})
}

// P13.1: the lines of mixed texts, with the levels and the base of layer 12.
func TestMixedParagraphs(t *testing.T) {
	mixed(100, 80, func(n int, chars []int) {
		for _, dir := range []int{api.DirAuto, api.DirLeft, api.DirRight} {
			levels, base := level.Of(chars, dir)
			for _, l := range linesOf(wrapOf(len(chars), 1+n%17)) {
				checkOracle(t, chars, levels, base, l)
			}
		}
	})
}

// P13.1: a text's lines, with layer 12's levels and base, told in full.
func TestParagraphs(t *testing.T) {
	for _, x := range []struct {
		dir          int
		text         string
		from, to     int
		levels, want string
	}{
		// What is white at a line's end goes to the base's side, within the line it goes with what stands beside it.
		{api.DirLeft, "L WS R WS R", 0, 4, "0 0 1 1 1", "0 0 1 0"}, {api.DirLeft, "L WS R WS R", 0, 5, "0 0 1 1 1", "0 0 1 1 1"}, {api.DirLeft, "L WS R WS R", 3, 5, "0 0 1 1 1", "1 1"}, {api.DirLeft, "L WS R WS R", 2, 4, "0 0 1 1 1", "1 0"},
		{api.DirRight, "L WS L WS EN", 0, 2, "2 2 2 2 2", "2 1"}, {api.DirRight, "L WS L WS EN", 0, 5, "2 2 2 2 2", "2 2 2 2 2"}, {api.DirRight, "L WS L WS EN", 1, 4, "2 2 2 2 2", "2 2 1"},
		// So does what separates, wherever it stands, and what is white ahead of it.
		{api.DirLeft, "R S R", 0, 3, "1 1 1", "1 0 1"}, {api.DirLeft, "R WS S WS R", 0, 5, "1 1 1 1 1", "1 0 0 1 1"}, {api.DirAuto, "R EN S EN", 0, 4, "1 2 1 2", "1 2 1 2"}, {api.DirLeft, "R RLI L S L PDI", 0, 6, "1 0 2 2 2 0", "1 0 2 0 2 0"}, {api.DirLeft, "RLE R S B", 0, 4, "0 1 1 0", "0 1 0 0"},
		// And so do isolates' beginnings and ends, and what is left out.
		{api.DirLeft, "R RLI R PDI R", 0, 4, "1 1 1 1 1", "1 1 1 0"}, {api.DirLeft, "R RLI R PDI R", 0, 2, "1 1 1 1 1", "1 0"}, {api.DirLeft, "RLE R LRE PDF PDF", 0, 5, "0 1 1 1 1", "0 1 0 0 0"}, {api.DirRight, "LRO R BN PDF WS R", 0, 4, "1 2 2 2 1 1", "1 2 1 1"},
	} {
		chars := write(x.text)
		levels, base := level.Of(chars, x.dir)
		if !slices.Equal(levels, read(x.levels)) {
			t.Errorf("levels of %s: %s, not %s", x.text, numbers(levels), x.levels)
		}
		checkLevels(t, chars, levels, base, api.Span{From: x.from, To: x.to}, read(x.want))
	}
}

// P13.1: long lines are gone through to the end, in so many steps as they have places.
func TestLongLines(t *testing.T) {
	for _, n := range []int{api.MaxText, 1 << 20} {
		for _, text := range []string{"WS", "BN", "S", "PDI"} {
			chars := slices.Repeat(write(text), n)
			levels := rising(n)
			checkLevels(t, chars, levels, 1, api.Span{From: 0, To: n}, slices.Repeat([]int{1}, n))
			chars[n-1] = 'a'
			got := line.Levels(chars, levels, 1, api.Span{From: 0, To: n})
			if text == "S" {
				levels = append(slices.Repeat([]int{1}, n-1), levels[n-1])
			}
			if !slices.Equal(got, levels) {
				t.Errorf("%d times %s, ahead of a letter: %s", n, text, numbers(got))
			}
		}
		chars := slices.Repeat(write("L WS S WS R"), n/5)
		want := rising(len(chars))
		for i := range want {
			if i%5 == 1 || i%5 == 2 {
				want[i] = math.MinInt
			}
		}
		checkLevels(t, chars, rising(len(chars)), math.MinInt, api.Span{From: 0, To: len(chars)}, want)
	}
}

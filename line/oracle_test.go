package line_test

import (
	"slices"
	"testing"

	"ductus/api"
	"ductus/line"
	"ductus/sample"
)

var (
	read, write = sample.Read, sample.Write
	// Characters, and numbers, as they are told.
	show, numbers = sample.Text, sample.Numbers
)

// The chapter's classes: those that get the base wherever they stand, and those that get it right ahead of one of these, or of the line's end.
var (
	separating = read("S B")
	whites     = read("WS LRI RLI FSI PDI LRE LRO RLE RLO PDF BN")
)

// mayBe: breaks of n characters, by the chapter's words one by one.
func mayBe(breaks []int, n int) bool {
	if n == 0 {
		return len(breaks) == 0
	}
	if len(breaks) == 0 || breaks[0] <= 0 || breaks[len(breaks)-1] != n {
		return false
	}
	for k := range breaks {
		if k > 0 && breaks[k] <= breaks[k-1] {
			return false
		}
	}
	return true
}

// linesOf: from one break (0 at first) up to the next one.
func linesOf(breaks []int) []api.Span {
	from := append([]int{0}, breaks...)
	var out []api.Span
	for k := range breaks {
		out = append(out, api.Span{From: from[k], To: breaks[k]})
	}
	return out
}

// levelsOf: of each place of a line, by the chapter's words one by one, none of the layers being called.
func levelsOf(chars, levels []int, base int, l api.Span) []int {
	if len(chars) != len(levels) || l.From < 0 || l.To > len(chars) || l.From > l.To {
		return nil
	}
	var out []int
	for i := l.From; i < l.To; i++ {
		if getsBase(chars[:l.To], i) {
			out = append(out, base)
		} else {
			out = append(out, levels[i])
		}
	}
	return out
}

// getsBase: does place i of characters that the line ends behind? From there on, one behind the other, all is to be white up to one that separates, or to the end.
func getsBase(chars []int, i int) bool {
	for _, c := range chars[i:] {
		switch k := sample.ClassOf(c); {
		case slices.Contains(separating, k):
			return true
		case !slices.Contains(whites, k):
			return false
		}
	}
	return true
}

// wrapOf: a line ends where it is as long as width, and where the characters end.
func wrapOf(n, width int) []int {
	if n < 1 || width < 1 || n > 4000 {
		return nil
	}
	var out []int
	long := 0
	for i := 1; i <= n; i++ {
		long++
		if long == width || i == n {
			out = append(out, i)
			long = 0
		}
	}
	return out
}

// checkBreaks: what Right and Lines answer of breaks; no lines, if they may not be.
func checkBreaks(t *testing.T, breaks []int, n int, right bool, lines []api.Span) {
	t.Helper()
	if got := line.Right(breaks, n); got != right {
		t.Errorf("Right of %s, of %d: %t", numbers(breaks), n, got)
	}
	want := api.OK
	if !right {
		want = api.ErrBreak
	}
	got, e := line.Lines(breaks, n)
	if e != want {
		t.Errorf("Lines of %s, of %d: error %d, not %d", numbers(breaks), n, e, want)
	}
	if !slices.Equal(got, lines) {
		t.Errorf("Lines of %s, of %d: %s, not %s", numbers(breaks), n, spans(got), spans(lines))
	}
}

// checkWords: Right and Lines are as the chapter's words say.
func checkWords(t *testing.T, breaks []int, n int) {
	t.Helper()
	if mayBe(breaks, n) {
		checkBreaks(t, breaks, n, true, linesOf(breaks))
	} else {
		checkBreaks(t, breaks, n, false, nil)
	}
}

// spans: as numbers, two of each.
func spans(l []api.Span) string {
	var out []int
	for _, s := range l {
		out = append(out, s.From, s.To)
	}
	return numbers(out)
}

func checkOf(t *testing.T, breaks []int, i, want int) {
	t.Helper()
	if got := line.Of(breaks, i); got != want {
		t.Errorf("Of %s, at %d: %d, not %d", numbers(breaks), i, got, want)
	}
}

func checkWrap(t *testing.T, n, width int, want []int) {
	t.Helper()
	if got := line.Wrap(n, width); !slices.Equal(got, want) {
		t.Errorf("Wrap of %d, %d wide: %s, not %s", n, width, numbers(got), numbers(want))
	}
}

func checkLevels(t *testing.T, chars, levels []int, base int, l api.Span, want []int) {
	t.Helper()
	if got := line.Levels(chars, levels, base, l); !slices.Equal(got, want) {
		t.Errorf("Levels of %s, from %d to %d, of levels %s and the base %d: %s, not %s", show(chars), l.From, l.To, numbers(levels), base, numbers(got), numbers(want))
	}
}

// checkOracle: a line's levels are as the chapter's words say.
func checkOracle(t *testing.T, chars, levels []int, base int, l api.Span) {
	t.Helper()
	checkLevels(t, chars, levels, base, l, levelsOf(chars, levels, base, l))
	if t.Failed() {
		t.FailNow()
	}
}

// rising: so many numbers, each one of its own, so that none stands where another one should.
func rising(n int) []int {
	out := make([]int, n)
	for i := range out {
		out[i] = 1000 + i
	}
	return out
}

// behind: breaks of lines that are so long, one behind the other.
func behind(long []int) []int {
	out := make([]int, len(long))
	last := 0
	for k, n := range long {
		last += n
		out[k] = last
	}
	return out
}

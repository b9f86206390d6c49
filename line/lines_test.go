package line_test

import (
	"errors"
	"math"
	"slices"
	"testing"

	"ductus/api"
	"ductus/line"
	"ductus/sample"
)

// Numbers of characters that are none.
var below = []int{-1, -2, -3, -4000, -1 << 31, -1 << 32, math.MinInt + 1, math.MinInt}

// P13.1: no breaks are right of 0 characters alone.
func TestNoBreaks(t *testing.T) {
	for _, none := range [][]int{nil, {}} {
		checkBreaks(t, none, 0, true, nil)
		for _, n := range append([]int{1, 2, 3, 4000, 1 << 16, 1 << 32, math.MaxInt}, below...) {
			checkBreaks(t, none, n, false, nil)
		}
	}
}

// P13.1: one break is right where it is the number of characters, and above 0.
func TestOneBreak(t *testing.T) {
	for _, n := range []int{1, 2, 3, 7, 256, 4000, 4001, 1 << 16, 1 << 31, 1 << 32, math.MaxInt} {
		checkBreaks(t, []int{n}, n, true, []api.Span{{From: 0, To: n}})
		checkBreaks(t, []int{n - 1}, n, false, nil)
		for _, b := range []int{0, -1, -n, n / 2, math.MinInt} {
			if b != n {
				checkBreaks(t, []int{b}, n, false, nil)
			}
		}
		if n < math.MaxInt {
			checkBreaks(t, []int{n + 1}, n, false, nil)
		}
	}
	checkBreaks(t, []int{1 << 32}, 0, false, nil)
	checkBreaks(t, []int{1<<32 + 3}, 3, false, nil)
	for _, n := range append([]int{0}, below...) {
		for _, b := range []int{n, -n, n + 1, 0, 1, -1, math.MaxInt} {
			checkBreaks(t, []int{b}, n, false, nil)
		}
	}
}

// P13.1: breaks that rise, that stay, that fall, of which the first or the last one isn't as it must be.
func TestBreaks(t *testing.T) {
	for _, x := range []struct {
		breaks []int
		n      int
		want   []api.Span
	}{
		{[]int{1, 4, 6}, 6, []api.Span{{From: 0, To: 1}, {From: 1, To: 4}, {From: 4, To: 6}}},
		{[]int{1, 2, 3}, 3, []api.Span{{From: 0, To: 1}, {From: 1, To: 2}, {From: 2, To: 3}}},
		{[]int{3, 4000}, 4000, []api.Span{{From: 0, To: 3}, {From: 3, To: 4000}}},
		{[]int{4000, 4001, 9000}, 9000, []api.Span{{From: 0, To: 4000}, {From: 4000, To: 4001}, {From: 4001, To: 9000}}},
		{[]int{1, math.MaxInt - 1, math.MaxInt}, math.MaxInt, []api.Span{{From: 0, To: 1}, {From: 1, To: math.MaxInt - 1}, {From: math.MaxInt - 1, To: math.MaxInt}}},
	} {
		checkBreaks(t, x.breaks, x.n, true, x.want)
	}
	for _, x := range []struct {
		breaks string
		n      int
	}{
		// The first one is 0, or below it.
		{"0", 0}, {"0 3", 3}, {"0 1 3", 3}, {"-1 3", 3}, {"-3 -2", -2}, {"-5 0", 0}, {"-1 0 3", 3}, {"-9 4", 4}, {"0", -1},
		// They stay.
		{"3 3", 3}, {"1 1 3", 3}, {"1 3 3", 3}, {"1 2 2 3", 3}, {"0 0", 0}, {"3 3 3", 3},
		// They fall.
		{"4 3", 3}, {"3 1 3", 3}, {"2 1 4", 4}, {"1 3 2 4", 4}, {"1 4 3", 3}, {"3 2 1", 1}, {"1 2 0 3", 3}, {"1 -1 3", 3}, {"4 3 5", 5},
		// The last one is below, or above.
		{"2", 3}, {"1 2", 3}, {"4", 3}, {"1 4", 3}, {"1 3 4", 3}, {"1 2 3", 0}, {"1 2 3", -3}, {"1 2 3", 4}, {"1 2 3", 2}, {"1", 0}, {"1 3 5", 3},
	} {
		checkBreaks(t, read(x.breaks), x.n, false, nil)
	}
}

// P13.1: breaks that rise are right of the last one alone; with one that stays, falls or isn't above 0 at any place of the list they are not.
func TestOneWrongBreak(t *testing.T) {
	for long := range sample.MixedOf([]int{1, 1, 2, 3, 80, 4000}, 300, 12) {
		breaks := behind(long)
		n := 0
		if len(breaks) > 0 {
			n = breaks[len(breaks)-1]
		}
		checkBreaks(t, breaks, n, true, linesOf(breaks))
		for _, other := range []int{n - 1, n + 1, -n - 1, n + 1<<32, len(breaks) + n + 1} {
			checkBreaks(t, breaks, other, false, nil)
		}
		for k := range breaks {
			ahead := 0
			if k > 0 {
				ahead = breaks[k-1]
			}
			for _, b := range []int{ahead, ahead - 1, 0, -1, -breaks[k], math.MinInt, math.MaxInt, breaks[k] + 5000} {
				wrong := slices.Clone(breaks)
				wrong[k] = b
				checkBreaks(t, wrong, n, false, nil)
				checkWords(t, wrong, wrong[len(wrong)-1])
			}
			twice := slices.Insert(slices.Clone(breaks), k, breaks[k])
			checkBreaks(t, twice, n, false, nil)
			checkBreaks(t, slices.Insert(slices.Clone(breaks), k, ahead), n, false, nil)
		}
	}
}

// P13.1: each short list of breaks, of each small number of characters, by the chapter's words.
func TestShortBreaks(t *testing.T) {
	for breaks := range sample.Every([]int{-1, 0, 1, 2, 3, 4, 5}, 5) {
		for n := -2; n <= 6; n++ {
			checkWords(t, breaks, n)
		}
	}
}

// P13.1: mixed lists of breaks that are mostly wrong, great ones among them.
func TestMixedBreaks(t *testing.T) {
	from := []int{math.MinInt, -1 << 32, -1, 0, 1, 2, 3, 4, 5, 6, 7, 8, 9, 4000, 4001, 1 << 31, 1 << 32, 1<<32 + 1, 1<<32 + 7, math.MaxInt - 1, math.MaxInt}
	for breaks := range sample.MixedOf(from, 5000, 6) {
		sorted := slices.Sorted(slices.Values(breaks))
		for _, l := range [][]int{breaks, sorted, slices.Compact(slices.Clone(sorted))} {
			checkWords(t, l, 0)
			for _, n := range l {
				checkWords(t, l, n)
			}
		}
	}
}

// P13.1: what Lines answers beside no error is OK, and its error is api's own.
func TestLinesError(t *testing.T) {
	if l, e := line.Lines([]int{2}, 3); !errors.Is(e, api.ErrBreak) || len(l) != 0 {
		t.Errorf("%s, %d", spans(l), e)
	}
	if l, e := line.Lines([]int{3}, 3); e != 0 || len(l) != 1 {
		t.Errorf("%s, %d", spans(l), e)
	}
}

// checkOne: lines are one behind the other from 0 on, none is empty, and each place is in one, the one that Of tells.
func checkOne(t *testing.T, breaks []int, n int) {
	t.Helper()
	lines, e := line.Lines(breaks, n)
	if e != api.OK {
		t.Fatalf("Lines of %s: error %d", numbers(breaks), e)
	}
	next := 0
	in := make([]int, n)
	for k, l := range lines {
		if l.From != next || l.To <= l.From {
			t.Fatalf("Lines of %s: from %d to %d, behind %d", numbers(breaks), l.From, l.To, next)
		}
		for i := l.From; i < l.To; i++ {
			in[i]++
			if got := line.Of(breaks, i); got != k {
				t.Fatalf("Of %s, at %d: %d, not %d", numbers(breaks), i, got, k)
			}
		}
		next = l.To
	}
	if next != n || slices.ContainsFunc(in, func(often int) bool { return often != 1 }) {
		t.Fatalf("Lines of %s: %s, of %d characters", numbers(breaks), spans(lines), n)
	}
	if line.Of(breaks, -1) != -1 || line.Of(breaks, n) != -1 || line.Of(breaks, n+1) != -1 {
		t.Fatalf("Of %s: %d, %d, %d", numbers(breaks), line.Of(breaks, -1), line.Of(breaks, n), line.Of(breaks, n+1))
	}
}

// P13.2: over mixed breaks, of lines that are short, long and both.
func TestAllAreInOne(t *testing.T) {
	checkOne(t, nil, 0)
	for _, long := range [][]int{{1}, {1, 2}, {1, 2, 3, 5, 8}, {60, 61, 1}, {1, 1, 1, 200}} {
		for l := range sample.MixedOf(long, 400, 40) {
			breaks := behind(l)
			n := 0
			for _, one := range l {
				n += one
			}
			checkOne(t, breaks, n)
		}
	}
	for breaks := range sample.Every([]int{1, 2, 3, 4, 5, 6}, 6) {
		if n := len(breaks); n > 0 && slices.IsSorted(breaks) && len(slices.Compact(slices.Clone(breaks))) == n {
			checkOne(t, breaks, breaks[n-1])
		}
	}
}

// P13.2: over Wrap's breaks, and over very many lines.
func TestAllOfWrapAreInOne(t *testing.T) {
	for _, n := range []int{1, 2, 3, 10, 79, 80, 81, 500, 3999, 4000} {
		for _, width := range []int{1, 2, 3, 7, 79, 80, 81, 3999, 4000, 4001, math.MaxInt} {
			checkOne(t, line.Wrap(n, width), n)
		}
	}
	checkOne(t, behind(slices.Repeat([]int{1}, 1<<16)), 1<<16)
	checkOne(t, behind(slices.Repeat([]int{1, 3, 2}, 1<<15)), 6<<15)
}

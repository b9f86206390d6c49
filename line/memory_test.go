package line_test

import (
	"slices"
	"testing"

	"ductus/api"
	"ductus/line"
	"ductus/sample"
)

// Some in which much gets the base, and nothing.
var told = []struct {
	text     string
	from, to int
	levels   string
	base     int
	want     string
}{
	{"L WS S R WS", 0, 5, "2 2 3 1 3", 1, "2 1 1 1 1"},
	{"L WS S R WS", 1, 4, "2 2 3 1 3", 0, "0 0 1"},
	{"L R EN", 0, 3, "2 1 2", 1, "2 1 2"},
	{"L R EN", 1, 3, "2 1 2", 1, "1 2"},
	{"WS BN", 0, 2, "2 2", 1, "1 1"},
	{"WS BN PDI L", 1, 2, "5 6 7 8", 9, "9"},
	{"WS", 0, 1, "0", 1, "1"},
}

// P13.1, by the rules that hold everywhere: what Levels is handed isn't changed nor kept, its spare room neither; what is answered is new, though no place get the base, or each.
func TestLevelsChangeNothing(t *testing.T) {
	for _, x := range told {
		chars, levels := write(x.text), read(x.levels)
		l := api.Span{From: x.from, To: x.to}
		for name, fault := range map[string]string{
			"characters": sample.Fault(chars, read(x.want), -77, func(chars []int) []int { return line.Levels(chars, levels, x.base, l) }),
			"levels":     sample.Fault(levels, read(x.want), -77, func(levels []int) []int { return line.Levels(chars, levels, x.base, l) }),
		} {
			if fault != "" {
				t.Errorf("Levels of %s, from %d to %d: of the %s it %s", x.text, x.from, x.to, name, fault)
			}
		}
		if !slices.Equal(chars, write(x.text)) || !slices.Equal(levels, read(x.levels)) {
			t.Errorf("Levels of %s changes it to %s, or its levels to %s", x.text, show(chars), numbers(levels))
		}
	}
	// One list that is handed in as both.
	both := write("L WS S")
	checkLevels(t, both, both, 1, api.Span{From: 0, To: 3}, []int{'a', 1, 1})
	if !slices.Equal(both, write("L WS S")) {
		t.Errorf("Levels changes what it is handed twice to %s", show(both))
	}
}

// P13.1, by the rules: nor is what Lines is handed.
func TestLinesChangeNothing(t *testing.T) {
	for _, breaks := range [][]int{{1, 4, 6}, {5}, {1, 2, 3, 4}} {
		n := breaks[len(breaks)-1]
		lines := func(breaks []int) []api.Span {
			line.Lines(breaks, n+1)
			line.Right(breaks, n)
			line.Right(breaks, n-1)
			line.Of(breaks, n-1)
			line.Of(breaks, n)
			out, _ := line.Lines(breaks, n)
			return out
		}
		if fault := sample.Fault(breaks, linesOf(breaks), api.Span{From: -7, To: -7}, lines); fault != "" {
			t.Errorf("Lines of %s: it %s", numbers(breaks), fault)
		}
	}
}

// P13.1, by the rules: Right and Of, which answer no list, leave theirs as they are, too, whether breaks may be or not.
func TestBreaksAreLeft(t *testing.T) {
	for breaks := range sample.MixedOf([]int{0, 1, 2, 3, 4, 5, 9}, 500, 8) {
		sorted := slices.Sorted(slices.Values(breaks))
		for _, l := range [][]int{breaks, sorted, slices.Compact(slices.Clone(sorted))} {
			whole := append(slices.Clone(l), 500, 501)
			was := slices.Clone(whole)
			for i := -1; i <= 10; i++ {
				line.Right(whole[:len(l)], i)
				line.Lines(whole[:len(l)], i)
				line.Of(whole[:len(l)], i)
			}
			if !slices.Equal(whole, was) {
				t.Fatalf("%s is %s", numbers(was), numbers(whole))
			}
		}
	}
}

// P13.1, by the rules: what Wrap answers is new each time.
func TestWrapIsNew(t *testing.T) {
	for _, n := range []int{1, 2, 5, 100, 4000} {
		for _, width := range []int{1, 2, 80, 5000} {
			first, second := line.Wrap(n, width), line.Wrap(n, width)
			second = second[:cap(second)]
			for i := range second {
				second[i] = -7
			}
			line.Wrap(n, 3)
			if want := wrapOf(n, width); !slices.Equal(first, want) || !slices.Equal(line.Wrap(n, width), want) {
				t.Errorf("Wrap of %d, %d wide: %s, then %s", n, width, numbers(first), numbers(line.Wrap(n, width)))
			}
		}
	}
}

// P13.1, by the rules: the spare room behind a list isn't of it, nor what stands ahead of it.
func TestSpareRoomIsNotRead(t *testing.T) {
	chars := write("WS L WS S BN R PDI WS EN B WS")
	levels := rising(len(chars))
	breaks := []int{1, 2, 5, 6, 9}
	for from := range len(chars) {
		for to := from; to <= len(chars); to++ {
			c, l := chars[from:to], levels[from:to]
			for i := range len(c) + 1 {
				checkOracle(t, c, l, 1, api.Span{From: 0, To: i})
				checkOracle(t, c, l, 1, api.Span{From: i, To: len(c)})
			}
			checkOracle(t, c, l, 1, api.Span{From: 0, To: len(c) + 1})
			checkOracle(t, c, levels[from:], 1, api.Span{From: 0, To: len(c)})
			checkOracle(t, chars[from:], l, 1, api.Span{From: 0, To: len(c)})
		}
	}
	for many := range breaks {
		checkBreaks(t, breaks[:many], breaks[many], false, nil)
		checkWords(t, breaks[:many], 9)
		checkWords(t, breaks[many:], 9)
		for i := -1; i < 10; i++ {
			want := slices.IndexFunc(breaks[:many], func(b int) bool { return b > i })
			if i < 0 {
				want = -1
			}
			checkOf(t, breaks[:many], i, want)
		}
	}
}

// P13.1, by the rules: a call hangs on its arguments alone, whatever was called ahead of it, and however often it is called.
func TestNothingIsKept(t *testing.T) {
	for range 20 {
		for _, x := range told {
			checkLevels(t, write(x.text), read(x.levels), x.base, api.Span{From: x.from, To: x.to}, read(x.want))
		}
		checkLevels(t, write("WS"), read("3"), 1, api.Span{From: 0, To: 2}, nil)
		checkWords(t, []int{1, 4, 6}, 6)
		checkWords(t, []int{1, 4, 6}, 5)
		checkWords(t, nil, 0)
		checkOf(t, []int{1, 4, 6}, 5, 2)
		checkOf(t, []int{1, 4}, 5, -1)
		checkWrap(t, 5, 2, []int{2, 4, 5})
		checkWrap(t, 5, 0, nil)
	}
	// The same lists, with something else in them.
	chars, levels, breaks := write("L WS R"), read("0 0 1"), []int{1, 3}
	whole := api.Span{From: 0, To: 3}
	checkLevels(t, chars, levels, 7, whole, read("0 0 1"))
	checkOf(t, breaks, 1, 1)
	chars[2] = '\t'
	checkLevels(t, chars, levels, 7, whole, read("0 7 7"))
	levels[0] = 4
	checkLevels(t, chars, levels, 6, whole, read("4 6 6"))
	breaks[0] = 2
	checkOf(t, breaks, 1, 0)
	checkBreaks(t, breaks, 3, true, []api.Span{{From: 0, To: 2}, {From: 2, To: 3}})
	breaks[0] = 3
	checkBreaks(t, breaks, 3, false, nil)
}

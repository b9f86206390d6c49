package line_test

import (
	"math"
	"slices"
	"testing"

	"ductus/line"
)

// Great numbers; some would be small in 8, 16 or 32 bits.
var great = []int{4001, 4002, 4096, 8000, 1<<16 - 1, 1 << 16, 1<<16 + 3, 1<<31 - 1, 1 << 31, 1<<31 + 5, 1<<32 - 1, 1 << 32, 1<<32 + 1, 1<<32 + 4000, 1 << 40, 1 << 62, math.MaxInt - 4000, math.MaxInt - 1, math.MaxInt}

// P13.1: the chapter's example, and others that are told in full.
func TestWrap(t *testing.T) {
	for _, x := range []struct {
		n, width int
		want     string
	}{
		{5, 2, "2 4 5"}, {4, 2, "2 4"}, {1, 1, "1"}, {2, 1, "1 2"}, {3, 1, "1 2 3"}, {1, 2, "1"}, {2, 2, "2"}, {3, 2, "2 3"}, {3, 3, "3"}, {3, 9, "3"}, {9, 3, "3 6 9"}, {10, 3, "3 6 9 10"}, {11, 3, "3 6 9 11"}, {10, 9, "9 10"}, {10, 10, "10"}, {10, 11, "10"}, {256, 100, "100 200 256"},
		{4000, 4000, "4000"}, {4000, 3999, "3999 4000"}, {4000, 4001, "4000"}, {3999, 4000, "3999"}, {4000, 2000, "2000 4000"}, {4000, 1999, "1999 3998 4000"}, {4000, 1500, "1500 3000 4000"},
		{4001, 1, ""}, {4001, 2000, ""}, {4001, 4000, ""}, {4001, 4001, ""}, {4002, 2, ""}, {8000, 80, ""},
	} {
		checkWrap(t, x.n, x.width, read(x.want))
	}
}

// P13.1: each number of characters and width, from below 0 up to some.
func TestSmallWraps(t *testing.T) {
	for n := -3; n <= 14; n++ {
		for width := -3; width <= 16; width++ {
			checkWrap(t, n, width, wrapOf(n, width))
		}
	}
	for n := 1; n <= 300; n++ {
		for width := 1; width <= n+1; width++ {
			checkWrap(t, n, width, wrapOf(n, width))
		}
	}
}

// P13.1: up to 4000 characters, and one more.
func TestManyWraps(t *testing.T) {
	for _, width := range []int{1, 2, 3, 7, 63, 64, 80, 999, 1000, 1999, 2000, 2001, 3998, 3999, 4000, 4001, 4002} {
		for _, n := range []int{3998, 3999, 4000, 4001, 4002} {
			checkWrap(t, n, width, wrapOf(n, width))
		}
	}
	if l := line.Wrap(4000, 1); len(l) != 4000 || l[0] != 1 || l[3999] != 4000 {
		t.Errorf("4000 lines of one: %d", len(l))
	}
}

// P13.1: great numbers of characters are too many, great widths are those of one line; of what is below 1 there is none.
func TestGreatWraps(t *testing.T) {
	for _, big := range great {
		for _, n := range []int{1, 2, 3, 100, 3999, 4000} {
			checkWrap(t, n, big, []int{n})
		}
		for _, width := range append([]int{-1, 0, 1, 2, 80, 4000}, great...) {
			checkWrap(t, big, width, nil)
		}
	}
	for _, low := range append([]int{0}, below...) {
		for _, other := range append(append([]int{0, 1, 2, 3, 80, 4000}, great...), below...) {
			checkWrap(t, low, other, nil)
			checkWrap(t, other, low, nil)
		}
	}
}

// P13.1: where there are breaks they may be, each line but the last one is as long as width, and that one isn't longer.
func TestWrapsMayBe(t *testing.T) {
	for _, n := range []int{1, 2, 5, 12, 100, 1234, 4000} {
		for width := 1; width <= n+2; width += 1 + width/5 {
			breaks := line.Wrap(n, width)
			lines, e := line.Lines(breaks, n)
			if !line.Right(breaks, n) || e != 0 || len(lines) == 0 {
				t.Fatalf("Wrap of %d, %d wide: %s", n, width, numbers(breaks))
			}
			last := len(lines) - 1
			for k, l := range lines {
				if long := l.To - l.From; long > width || k < last && long != width {
					t.Fatalf("Wrap of %d, %d wide: line %d is %d long", n, width, k, long)
				}
			}
			if !slices.Equal(breaks, wrapOf(n, width)) {
				t.Fatalf("Wrap of %d, %d wide: %s", n, width, numbers(breaks))
			}
		}
	}
}

package line_test

import (
	"math"
	"slices"
	"testing"

	"ductus/line"
	"ductus/sample"
)

// P13.1: Of at each place of each line, right ahead of each break and right at it.
func TestOf(t *testing.T) {
	for _, x := range []struct{ breaks, want string }{
		{"1", "0"}, {"2", "0 0"}, {"5", "0 0 0 0 0"}, {"1 2", "0 1"}, {"1 4 6", "0 1 1 1 2 2"}, {"3 4 5", "0 0 0 1 2"}, {"2 3 7 8", "0 0 1 2 2 2 2 3"},
		{"1 2 3 4 5 6 7", "0 1 2 3 4 5 6"}, {"4 9", "0*4 1*5"}, {"4000", "0*4000"}, {"1 4000 4002", "0 1*3999 2 2"},
	} {
		breaks, want := read(x.breaks), read(x.want)
		for i, k := range want {
			checkOf(t, breaks, i, k)
		}
		for _, i := range []int{len(want), len(want) + 1, len(want) + 2, 1 << 16, 1 << 32, math.MaxInt - 1, math.MaxInt} {
			checkOf(t, breaks, i, -1)
		}
		for _, i := range below {
			checkOf(t, breaks, i, -1)
		}
	}
}

// P13.1: no place is in a line where there are no breaks.
func TestOfNoBreaks(t *testing.T) {
	for _, none := range [][]int{nil, {}} {
		for _, i := range append([]int{0, 1, 2, 4000, 1 << 32, math.MaxInt}, below...) {
			checkOf(t, none, i, -1)
		}
	}
}

// P13.1: Of great breaks.
func TestOfGreatBreaks(t *testing.T) {
	breaks := []int{3, 1 << 31, 1 << 32, 1 << 62, math.MaxInt - 1, math.MaxInt}
	for i, want := range map[int]int{
		0: 0, 2: 0, 3: 1, 1<<31 - 1: 1, 1 << 31: 2, 1<<32 - 1: 2, 1 << 32: 3, 1<<32 + 2: 3, 1<<62 - 1: 3, 1 << 62: 4,
		math.MaxInt - 2: 4, math.MaxInt - 1: 5, math.MaxInt: -1, -1: -1, math.MinInt: -1,
	} {
		checkOf(t, breaks, i, want)
	}
}

// P13.1: breaks that rise, but from 0 or below it, have lines with no place from 0 on in them; what is below 0 is in none.
func TestOfBreaksBelow(t *testing.T) {
	for _, x := range []struct{ breaks, want string }{
		{"0", ""}, {"-1", ""}, {"-3 -1", ""}, {"-1 0", ""}, {"0 1", "1"}, {"0 3", "1 1 1"}, {"-1 2", "1 1"}, {"-2 -1 2 3", "2 2 3"}, {"-5 0 1 4", "2 3 3 3"},
	} {
		breaks, want := read(x.breaks), read(x.want)
		for i, k := range want {
			checkOf(t, breaks, i, k)
		}
		for i := len(want); i < len(want)+3; i++ {
			checkOf(t, breaks, i, -1)
		}
		for _, i := range below {
			checkOf(t, breaks, i, -1)
		}
	}
}

// P13.1: each list of some breaks that rise, at each place, by where the lines begin and end.
func TestOfShortBreaks(t *testing.T) {
	for breaks := range sample.Every([]int{1, 2, 3, 4, 5, 6, 8}, 5) {
		n := len(breaks)
		if n == 0 || !mayBe(breaks, breaks[n-1]) {
			continue
		}
		lines := linesOf(breaks)
		for i := -2; i < breaks[n-1]+3; i++ {
			want := -1
			for k, l := range lines {
				if l.From <= i && i < l.To {
					want = k
				}
			}
			checkOf(t, breaks, i, want)
		}
	}
}

// P13.1, by the rules that hold everywhere: of breaks that don't rise nothing is promised but an end.
func TestOfEnds(t *testing.T) {
	for breaks := range sample.MixedOf([]int{math.MinInt, -1, 0, 1, 2, 3, 4, 5, math.MaxInt}, 2000, 9) {
		for _, i := range append(slices.Clone(breaks), -2, 6, 1<<32) {
			line.Of(breaks, i)
		}
	}
}

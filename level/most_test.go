package level_test

import (
	"math"
	"slices"
	"testing"

	"ductus/api"
	"ductus/level"
	"ductus/sample"
)

func checkMost(t *testing.T, l []int, want int) {
	t.Helper()
	if got := level.Most(l); got != want {
		t.Errorf("Most of %s: %d, not %d", numbers(l), got, want)
	}
}

// P12.1: Most of no levels, of one, of levels below 0, of great ones, with the greatest one first, in the middle, last, and more than once.
func TestMost(t *testing.T) {
	checkMost(t, nil, -1)
	checkMost(t, []int{}, -1)
	for _, n := range slices.Concat(sample.Even(), sample.Odd()) {
		checkMost(t, []int{n}, n)
		checkMost(t, slices.Repeat([]int{n}, 5), n)
	}
	for _, x := range []struct {
		l    []int
		want int
	}{
		{[]int{3, 1, 2}, 3}, {[]int{1, 3, 2}, 3}, {[]int{1, 2, 3}, 3}, {[]int{3, 1, 3, 2, 3}, 3}, {[]int{0, 0}, 0}, {[]int{0, 1, 0}, 1}, {[]int{126, 125, 126}, 126}, {[]int{1, 0, 2, 0, 1}, 2},
		{[]int{-1, -2}, -1}, {[]int{-3, -2, -5}, -2}, {[]int{-7, -8, -7}, -7}, {[]int{-2, 0, -1}, 0}, {[]int{-5, 4}, 4}, {[]int{-2}, -2}, {[]int{math.MinInt, math.MinInt}, math.MinInt}, {[]int{math.MinInt, math.MinInt + 1}, math.MinInt + 1},
		{[]int{1 << 40, 1<<40 + 1, 1 << 33}, 1<<40 + 1}, {[]int{math.MaxInt, 0, math.MinInt}, math.MaxInt}, {[]int{1 << 32, 5}, 1 << 32}, {[]int{256, 255}, 256}, {[]int{127, 128}, 128}, {[]int{math.MaxInt32, math.MaxInt32 + 1}, math.MaxInt32 + 1},
	} {
		checkMost(t, x.l, x.want)
	}
}

// P12.1: Most of each short list, and of mixed ones: it is there, and none is above it.
func TestMostOfLists(t *testing.T) {
	check := func(l []int) {
		t.Helper()
		sorted := slices.Sorted(slices.Values(append([]int{math.MinInt}, l...)))
		want := sorted[len(l)]
		if len(l) == 0 {
			want = -1
		}
		checkMost(t, l, want)
	}
	for l := range sample.Every([]int{-2, -1, 0, 1, 2, 126}, 5) {
		check(l)
	}
	for l := range sample.MixedOf(slices.Concat(sample.Even(), sample.Odd()), 1000, 60) {
		check(l)
	}
	for _, n := range []int{0, api.MaxText, 1<<16 - 1} {
		l := make([]int, 1<<16)
		l[min(n, len(l)-1)] = 1
		checkMost(t, l, 1)
	}
}

func checkWhole(t *testing.T, chars []int, dir int, want bool) {
	t.Helper()
	if got := level.Whole(chars, dir); got != want {
		t.Errorf("Whole of %s, with %d: %t, not %t", show(chars), dir, got, want)
	}
}

// P12.1: Whole of no characters, of one, and of texts of one level alone, even and odd.
func TestWhole(t *testing.T) {
	for _, dir := range append(slices.Clone(looked), given...) {
		checkWhole(t, nil, dir, true)
		checkWhole(t, []int{}, dir, true)
		for _, c := range all() {
			checkWhole(t, []int{c}, dir, true)
		}
	}
	for _, text := range []string{"L L L", "L WS L", "L EN ES EN", "EN ET", "WS ON", "B B", "L B L", "BN BN", "L BN PDF", "L ( L )", "RLI PDI", "NSM L", "LRE PDF L"} {
		checkWhole(t, write(text), api.DirLeft, true)
		checkWhole(t, write(text), api.DirAuto, true)
	}
	for _, text := range []string{"R R R", "R WS AL", "BN R", "R NSM B", "R B R", "R ( R )", "R RLI PDI R", "PDF R BN"} {
		checkWhole(t, write(text), api.DirAuto, true)
		checkWhole(t, write(text), api.DirRight, true)
	}
	// Other levels than the base's.
	checkWhole(t, write("R R WS R"), api.DirLeft, true)
	checkWhole(t, write("L EN WS L"), api.DirRight, true)
	checkWhole(t, write("AN AN"), api.DirLeft, true)
	checkWhole(t, write("EN CS EN BN"), api.DirRight, true)
}

// P12.1: Whole where one is unlike, at each place: at the beginning, in the middle, and at the end.
func TestWholeButOne(t *testing.T) {
	for _, x := range []struct {
		most, one string
		dir       int
	}{
		{"L", "R", api.DirLeft}, {"L", "AN", api.DirLeft}, {"WS", "R", api.DirLeft}, {"EN", "AL", api.DirLeft}, {"BN", "R", api.DirLeft}, {"B", "AN", api.DirAuto},
		{"R", "L", api.DirRight}, {"R", "EN", api.DirRight}, {"AL", "AN", api.DirAuto}, {"ON", "L", api.DirRight}, {"L", "R", api.DirRight}, {"R", "L", api.DirLeft}, {"AN", "L", api.DirLeft}, {"EN", "R", api.DirRight},
	} {
		for _, n := range []int{2, 3, 9} {
			for i := range n {
				chars := slices.Repeat(write(x.most), n)
				chars[i] = write(x.one)[0]
				if x.most == "BN" && i == 0 {
					// What is left out has the level of the one ahead.
					continue
				}
				checkWhole(t, chars, x.dir, false)
			}
		}
	}
	// Of what is left out alone: at the beginning it has the base, within an embedding it has what is ahead of it.
	for text, want := range map[string]bool{"BN R": false, "R BN": true, "R B BN": false, "RLE R": false, "R RLE R": true, "R RLE L": false, "R LRE PDF": true, "BN L RLE PDF": true} {
		checkWhole(t, write(text), api.DirLeft, want)
	}
	long := append(slices.Repeat(write("L"), api.MaxText), write("R")...)
	checkWhole(t, long, api.DirLeft, false)
	checkWhole(t, long[:api.MaxText], api.DirLeft, true)
	checkWhole(t, long[api.MaxText:], api.DirLeft, true)
}

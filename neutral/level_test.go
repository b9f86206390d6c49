package neutral_test

import (
	"math"
	"slices"
	"testing"

	"ductus/api"
	"ductus/neutral"
	"ductus/sample"
)

func checkLevel(t *testing.T, k, level, want int) {
	t.Helper()
	if got := neutral.Level(k, level); got != want {
		t.Errorf("Level of %s, of %d: %d, not %d", show([]int{k}), level, got, want)
	}
}

func checkLevels(t *testing.T, l []int, level int, want []int) {
	t.Helper()
	if got := neutral.Levels(l, level); !slices.Equal(got, want) {
		t.Errorf("Levels of %s, of %d: %d, not %d", show(l), level, got, want)
	}
}

// P11.1: Level and Levels that are told in full, of L, R, EN, AN, and what stays: at 0, at the greatest one that a list may have, around it, below 0, and at great ones.
func TestLevelsThatAreTold(t *testing.T) {
	for _, x := range []struct {
		level int
		want  []int
	}{
		{0, []int{0, 1, 2, 2, 0, 0, 0}}, {1, []int{2, 1, 2, 2, 1, 1, 1}}, {2, []int{2, 3, 4, 4, 2, 2, 2}}, {3, []int{4, 3, 4, 4, 3, 3, 3}},
		{123, []int{124, 123, 124, 124, 123, 123, 123}}, {124, []int{124, 125, 126, 126, 124, 124, 124}}, {125, []int{126, 125, 126, 126, 125, 125, 125}},
		{126, []int{126, 127, 128, 128, 126, 126, 126}}, {127, []int{128, 127, 128, 128, 127, 127, 127}}, {255, []int{256, 255, 256, 256, 255, 255, 255}},
		{-1, []int{0, -1, 0, 0, -1, -1, -1}}, {-2, []int{-2, -1, 0, 0, -2, -2, -2}}, {-3, []int{-2, -3, -2, -2, -3, -3, -3}}, {-4, []int{-4, -3, -2, -2, -4, -4, -4}},
		{1 << 32, []int{1 << 32, 1<<32 + 1, 1<<32 + 2, 1<<32 + 2, 1 << 32, 1 << 32, 1 << 32}}, {math.MinInt + 1, []int{math.MinInt + 2, math.MinInt + 1, math.MinInt + 2, math.MinInt + 2, math.MinInt + 1, math.MinInt + 1, math.MinInt + 1}},
	} {
		l := read("L R EN AN ON BN 99")
		checkLevels(t, l, x.level, x.want)
		for i, k := range l {
			checkLevel(t, k, x.level, x.want[i])
		}
	}
}

// more: how much more than the level a class's is.
func more(k, level int) int {
	switch {
	case k == api.EN || k == api.AN:
		return 2 - level&1
	case k == api.L:
		return level & 1
	case k == api.R:
		return 1 - level&1
	}
	return 0
}

// P11.1: Level of each class, and of numbers that are none, at each level. (Beyond the greatest whole number there is no more: there it wraps round, as whole numbers do.)
func TestLevelOfEach(t *testing.T) {
	for _, level := range levels {
		for _, k := range append(slices.Clone(classes), noClasses...) {
			checkLevel(t, k, level, level+more(k, level))
		}
		for k := -300; k < 300; k++ {
			checkLevel(t, k, level, level+more(k, level))
		}
	}
	for level := -300; level < 300; level++ {
		for _, k := range classes {
			checkLevel(t, k, level, level+more(k, level))
		}
	}
}

// P11.1: Levels of an empty list.
func TestLevelsOfNone(t *testing.T) {
	for _, level := range levels {
		checkLevels(t, nil, level, nil)
		checkLevels(t, []int{}, level, nil)
	}
}

// P11.1: Levels of lists: of every class, of what is none, short ones, mixed ones, and a very long one: each its own, in order.
func TestLevelsOfLists(t *testing.T) {
	n := 0
	check := func(l []int, level int) {
		t.Helper()
		var want []int
		for _, k := range l {
			want = append(want, level+more(k, level))
		}
		checkLevels(t, l, level, want)
	}
	for _, level := range levels {
		check(classes, level)
		check(noClasses, level)
		check(slices.Concat(noClasses, classes, classes), level)
	}
	for l := range sample.Every(append(slices.Clone(classes), noClasses[0]), 3) {
		check(l, n%2)
		check(l, levels[n%len(levels)])
		n++
	}
	for l := range sample.Mixed(slices.Repeat(read("L R EN AN"), 6), 500, 200) {
		check(l, n%126)
		check(l, levels[n%len(levels)])
		n++
	}
	check(slices.Repeat(read("L R EN AN ON"), 1<<14), 125)
}

package explicit_test

import (
	"slices"
	"testing"

	"ductus/explicit"
)

// P6.1, by the rules that hold everywhere: what Of is handed isn't changed nor kept, its spare room neither; both of its answers are new, and share nothing.
func TestOfKeepsNothing(t *testing.T) {
	for _, s := range []said{
		{"RLO L PDF 99", 0, "0 1 1 0", "RLO R PDF L", 0},
		{"L R ON", 1, "1 1 1", "L R ON", 0},
		{"FSI AL PDI B", 0, "0 1 0 0", "FSI AL PDI B", 0},
		{"LRI", 1, "1", "LRI", 0},
	} {
		l := read(s.l)
		whole := slices.Concat(l, read("PDI PDF RLI 99"))
		was := slices.Clone(whole)
		levels, told := explicit.Of(whole[:len(l)], s.base)
		explicit.Depth(whole[:len(l)], s.base)
		if !slices.Equal(whole, was) {
			t.Errorf("what was handed in was changed to %s", show(whole))
		}
		againLevels, againTold := explicit.Of(whole[:len(l)], s.base)
		for _, other := range [][]int{againLevels[:cap(againLevels)], againTold[:cap(againTold)], whole} {
			for i := range other {
				other[i] = 77
			}
		}
		explicit.Of(read("RLE LRE RLO LRO LRI RLI FSI"), 0)
		if !slices.Equal(levels, read(s.levels)) || !slices.Equal(told, read(s.told)) {
			t.Errorf("the answer was changed to %d, %s", levels, show(told))
		}
		fill(levels[:cap(levels)], -7)
		if slices.Contains(told, -7) || slices.Contains(whole, -7) {
			t.Errorf("levels are shared with classes %d, or with what was handed in, %d", told, whole)
		}
		fill(told[:cap(told)], -8)
		if slices.Contains(levels, -8) || slices.Contains(whole, -8) {
			t.Errorf("classes are shared with levels %d, or with what was handed in, %d", levels, whole)
		}
	}
}

func fill(l []int, n int) {
	for i := range l {
		l[i] = n
	}
}

// P6.1, by the rules: the spare room behind a list isn't of it.
func TestSpareRoomIsNotRead(t *testing.T) {
	checkOf(t, read("FSI ON R PDI")[:2], 0, []int{0, 2}, read("FSI ON"))
	checkOf(t, read("FSI R")[:1], 1, []int{1}, read("FSI"))
	checkDepth(t, read("L RLE LRE")[:2], 0, 2)
	checkDepth(t, read("RLE LRE")[:0], 0, 1)
}

// P6.1, by the rules: a call hangs on its arguments alone, whatever was called ahead of it, and however often it is called.
func TestNothingIsKept(t *testing.T) {
	for range 20 {
		said{"RLE LRI RLO L", 0, "0 1 2 3", "RLE LRI RLO R", 4}.check(t)
		said{"PDF PDI L", 0, "0 0 0", "", 1}.check(t)
		said{"RLE*70 RLI*70 LRE", 1, "125", "", 63}.checkEnd(t)
		said{"LRE R PDI", 1, "1 2 2", "", 2}.check(t)
		said{"RLI L PDI", 0, "0 1 0", "", 2}.check(t)
		checkNext(t, 7, 1, 9)
		checkNext(t, 7, 0, 8)
	}
}

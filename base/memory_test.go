package base_test

import (
	"slices"
	"testing"

	"ductus/api"
	"ductus/base"
)

// P5.1, by the rules that hold everywhere: what Match is handed isn't changed nor kept, its spare room neither; its answer is new.
func TestMatchKeepsNothing(t *testing.T) {
	for _, x := range []struct {
		l    string
		want []int
	}{
		{"LRI FSI R PDI PDI", []int{4, 3, -1, 1, 0}},
		{"L R ON", []int{-1, -1, -1}},
		{"LRI B PDI", []int{-1, -1, -1}},
		{"RLI", []int{-1}},
	} {
		l := read(x.l)
		whole := slices.Concat(l, read("PDI PDI RLI 99"))
		was := slices.Clone(whole)
		got := base.Match(whole[:len(l)])
		if !slices.Equal(whole, was) {
			t.Errorf("what was handed in was changed to %s", show(whole))
		}
		again := base.Match(whole[:len(l)])
		for _, other := range [][]int{again[:cap(again)], whole} {
			for i := range other {
				other[i] = 77
			}
		}
		base.Match(read("LRI PDI LRI PDI LRI PDI"))
		if !slices.Equal(got, x.want) {
			t.Errorf("the answer was changed to %d, not %d", got, x.want)
		}
		for i := range got {
			got[i] = -7
		}
		if slices.Contains(whole, -7) {
			t.Errorf("the answer is what was handed in: %d", whole)
		}
	}
}

// P5.1, by the rules: what the other calls are handed isn't changed either.
func TestNothingIsChanged(t *testing.T) {
	whole := read("ON FSI RLI R 99 PDI AL PDI L B PDI R")
	was := slices.Clone(whole)
	l := whole[:9]
	for i := range len(l) + 1 {
		base.First(l, i, len(l))
		base.Isolate(l, i)
	}
	base.Level(l, api.DirAuto)
	base.Level(whole, api.DirAuto)
	if !slices.Equal(whole, was) {
		t.Errorf("what was handed in was changed to %s", show(whole))
	}
}

// P5.1, by the rules: the spare room behind a list isn't of it.
func TestSpareRoomIsNotRead(t *testing.T) {
	whole := read("FSI ON PDI R")
	checkMatch(t, whole[:2], []int{-1, -1})
	checkFirst(t, whole[:3], 0, 4, -1)
	checkFirst(t, whole[:3], 3, 4, -1)
	checkLevel(t, whole[:3], api.DirAuto, 0)
	checkIsolate(t, read("FSI ON R PDI")[:2], 0, 0)
	checkIsolate(t, read("R FSI RLI")[:2], 2, -1)
}

// P5.1, by the rules: a call hangs on its arguments alone, whatever was called ahead of it, and however often it is called.
func TestNothingIsKept(t *testing.T) {
	open, shut, right := read("LRI RLI FSI"), read("PDI PDI R"), read("ON R")
	for range 20 {
		checkMatch(t, open, []int{-1, -1, -1})
		checkMatch(t, shut, []int{-1, -1, -1})
		checkFirst(t, open, 0, 3, -1)
		checkFirst(t, right, 0, 2, 1)
		checkLevel(t, open, api.DirRight, 1)
		checkLevel(t, shut, api.DirAuto, 1)
		checkLevel(t, open, api.DirAuto, 0)
		checkIsolate(t, open, 1, 1)
		checkIsolate(t, open, 2, 0)
	}
}

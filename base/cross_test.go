package base_test

import (
	"slices"
	"testing"

	"ductus/api"
	"ductus/base"
)

// checkEachOther: each that has an other one is that one's; one of both begins an isolate, the other one is a PDI behind it, in its paragraph; what stands between them has its own between them. It answers how many isolates have an end.
func checkEachOther(t *testing.T, l []int) int {
	t.Helper()
	m := base.Match(l)
	if len(m) != len(l) {
		t.Fatalf("Match of %s: %d, not one for each", show(l), m)
	}
	many := 0
	for i, j := range m {
		if j < -1 || j >= len(l) {
			t.Fatalf("Match of %s: %d leads out of it", show(l), m)
		}
		if j == -1 {
			continue
		}
		if m[j] != i || m[m[m[i]]] != j {
			t.Errorf("Match of %s: %d: %d leads to %d, that to %d", show(l), m, i, j, m[j])
		}
		if i < j {
			many++
			checkBetween(t, l, m, i, j)
		}
	}
	return many
}

// checkBetween: an isolate's beginning and its end cross no others, nor a paragraph's end.
func checkBetween(t *testing.T, l, m []int, begin, end int) {
	t.Helper()
	if !opens(l[begin]) || l[end] != api.PDI {
		t.Errorf("Match of %s: %d: %d to %d is no isolate", show(l), m, begin, end)
	}
	for k := begin + 1; k < end; k++ {
		if l[k] == api.B {
			t.Errorf("Match of %s: %d: %d to %d isn't in one paragraph", show(l), m, begin, end)
		}
		if m[k] != -1 && (m[k] <= begin || m[k] >= end) {
			t.Errorf("Match of %s: %d: %d to %d crosses %d to %d", show(l), m, begin, end, k, m[k])
		}
		if m[k] == -1 && (opens(l[k]) || l[k] == api.PDI) {
			t.Errorf("Match of %s: %d: %d, between %d and %d, has no other one", show(l), m, k, begin, end)
		}
	}
}

// P5.2: an isolate's end's beginning's end is it, and they don't cross, at many lists of mixed classes.
func TestEachOther(t *testing.T) {
	many := 0
	for l := range mixedLists(nil, 3000, 60) {
		many += checkEachOther(t, l)
	}
	for l := range mixedLists(slices.Repeat(read("LRI RLI FSI PDI PDI PDI"), 6), 3000, 60) {
		many += checkEachOther(t, l)
	}
	for l := range mixedLists(slices.Repeat(read("LRI RLI FSI PDI PDI PDI PDI"), 100), 20, 700) {
		many += checkEachOther(t, l)
	}
	if many < 10000 {
		t.Errorf("so few isolates have an end: %d", many)
	}
}

// P5.2: the same at each short list of what begins and ends.
func TestEachOtherOfShort(t *testing.T) {
	many := 0
	for l := range everyList([]int{api.LRI, api.FSI, api.PDI, api.B}, 6) {
		many += checkEachOther(t, l)
	}
	for l := range everyList([]int{api.RLI, api.PDI}, 10) {
		many += checkEachOther(t, l)
	}
	if many < 1000 {
		t.Errorf("so few isolates have an end: %d", many)
	}
}

// P5.2: a list that is handed in the second time, as one behind another, is matched as it was, moved on.
func TestEachOtherMovedOn(t *testing.T) {
	for l := range mixedLists(slices.Repeat(read("LRI RLI FSI PDI PDI PDI"), 3), 300, 30) {
		m := base.Match(l)
		moved := slices.Concat(l, []int{api.B}, l)
		want := slices.Concat(m, []int{-1}, m)
		for i, j := range m {
			if j >= 0 {
				want[len(l)+1+i] = len(l) + 1 + j
			}
		}
		checkMatch(t, moved, want)
		checkEachOther(t, moved)
	}
}

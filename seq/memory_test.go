package seq_test

import (
	"slices"
	"testing"

	"ductus/api"
	"ductus/seq"
)

// Some that are told in full: of one run alone, of several, with some left out, joined, and not.
var told = []said{
	{"RLI L PDI", "0 1 0", 0, "0-0 1-1 2-2", "0 2: 0 L L; 1: 1 R R"},
	{"L R L R", "0 1 2 3", 0, "0-0 1-1 2-2 3-3", "0: 0 L R; 1: 1 R L; 2: 2 L R; 3: 3 R R"},
	{"L BN R ON", "1 2 1 1", 0, "0-3", "0 2 3: 1 R R"},
	{"L R ON", "0 0 0", 1, "0-2", "0 1 2: 0 R R"},
	{"L B R B", "2 2 2 2", 0, "0-1 2-3", "0 1: 2 L L; 2 3: 2 L L"},
	{"RLI R L PDI LRI R PDI PDI", "0 1 1 0 0 2 0 0", 0, "0-0 1-2 3-4 5-5 6-7", "0 3 4 6 7: 0 L L; 1 2: 1 R R; 5: 2 L L"},
	{"BN PDF", "0 1", 0, "", ""},
}

// P8.1, by the rules that hold everywhere: what Runs and Of are handed isn't changed nor kept, its spare room neither; what they answer is new.
func TestNothingIsChanged(t *testing.T) {
	for _, s := range told {
		wholeClasses, wholeLevels := append(read(s.classes), read("PDI RLI B L")...), append(read(s.levels), 7, 0, 0, 7)
		wasClasses, wasLevels := slices.Clone(wholeClasses), slices.Clone(wholeLevels)
		n := len(read(s.classes))
		classes, levels := wholeClasses[:n], wholeLevels[:n]
		runs, seqs := seq.Runs(classes, levels), seq.Of(classes, levels, s.base)
		otherRuns, otherSeqs := seq.Runs(classes, levels), seq.Of(classes, levels, s.base)
		fillRuns(otherRuns)
		fillSeqs(otherSeqs)
		if !slices.Equal(wholeClasses, wasClasses) || !slices.Equal(wholeLevels, wasLevels) {
			t.Errorf("what was handed in was changed to %s, %d", show(wholeClasses), wholeLevels)
		}
		fill(wholeClasses, api.B)
		fill(wholeLevels, 77)
		seq.Runs(read("R L R L R"), []int{0, 1, 2, 3, 4})
		seq.Of(read("RLI R PDI L B"), []int{0, 1, 0, 1, 0}, 1)
		if got := showRuns(runs); got != s.runs {
			t.Errorf("the runs were changed to %s, from %s", got, s.runs)
		}
		if got := showSeqs(seqs); got != s.seqs {
			t.Errorf("the sequences were changed to %s, from %s", got, s.seqs)
		}
	}
}

func fill(l []int, n int) {
	for i := range l {
		l[i] = n
	}
}

func fillRuns(l [][2]int) {
	for i := range l[:cap(l)] {
		l[:cap(l)][i] = [2]int{-1, -1}
	}
}

func fillSeqs(l []api.Seq) {
	for _, s := range l {
		fill(s.At[:cap(s.At)], -1)
	}
}

// P8.1, by the rules: the same list handed in as both is but read.
func TestOneListAsBoth(t *testing.T) {
	l := []int{api.R, api.R, api.B, api.L, api.ON}
	said{"", "", 0, "0-1 2-2 3-3 4-4", "0 1: 1 R L; 2: 10 L L; 3: 0 L R; 4: 13 R R"}.checkOf(t, l, l)
	if !slices.Equal(l, []int{api.R, api.R, api.B, api.L, api.ON}) {
		t.Errorf("it was changed to %d", l)
	}
}

// P8.1, by the rules: no two sequences of an answer share their places, nor has one room where another one's stand.
func TestSequencesShareNothing(t *testing.T) {
	for _, s := range told {
		want := seq.Of(read(s.classes), read(s.levels), s.base)
		for n := range want {
			l := seq.Of(read(s.classes), read(s.levels), s.base)
			fill(l[n].At[:cap(l[n].At)], -1)
			fill(append(l[n].At, -2, -2, -2), -3)
			for i := range l {
				if i != n && !sameSeq(l[i], want[i]) {
					t.Errorf("Of %s at %s: sequence %d is of %d, too: %s", s.classes, s.levels, i, n, showSeqs(l))
				}
			}
		}
	}
}

// P8.1, by the rules: the spare room behind a list isn't of it.
func TestSpareRoomIsNotRead(t *testing.T) {
	classes, levels := read("L RLI R PDI L"), []int{0, 0, 1, 0, 0}
	said{"", "", 0, "0-1 2-2", "0 1: 0 L L; 2: 1 R R"}.checkOf(t, classes[:3], levels[:3])
	said{"", "", 0, "0-1", "0 1: 0 L L"}.checkOf(t, classes[:2], levels[:2])
	said{"", "", 0, "0-0 1-1 2-3", "0 2 3: 0 L L; 1: 1 R R"}.checkOf(t, classes[1:], levels[1:])
	said{"", "", 0, "0-0 1-2", "0: 1 R R; 1 2: 0 R L"}.checkOf(t, classes[2:], levels[2:])
	said{}.checkOf(t, classes[:3], levels[:2])
	said{}.checkOf(t, classes[:0], levels[:0])
	l := []int{0, 1, 1, 9}
	checkRight(t, at(l[:2]), 3, true)
	checkRight(t, at(l[:3]), 3, false)
	checkRight(t, []api.Seq{{At: l[:2]}, {At: l[3:]}}[:1], 3, true)
}

// P8.1, by the rules: Right changes nothing of what it is handed.
func TestRightChangesNothing(t *testing.T) {
	for _, lists := range [][][]int{{{0, 2}, {1}}, {{2}, {0, 1}}, {{2, 1, 0}}, {{1, 1}}, {{-1}, {5, 3}}, {{0}, {0}}} {
		l := at(lists...)
		for i := range l {
			l[i].Level, l[i].Sos, l[i].Eos = i+1, api.R, api.AL
		}
		was := showSeqs(l)
		wide := append(slices.Clone(l), api.Seq{At: []int{7, 6}})
		wide[0].At = append(slices.Clone(lists[0]), 9, 8)[:len(lists[0])]
		seq.Right(wide[:len(l)], 3)
		if showSeqs(wide[:len(l)]) != was || !slices.Equal(wide[len(l)].At, []int{7, 6}) || !slices.Equal(wide[0].At[:len(lists[0])+2], append(slices.Clone(lists[0]), 9, 8)) {
			t.Errorf("%s was changed to %s", was, showSeqs(wide))
		}
	}
}

// P8.1, by the rules: a call hangs on its arguments alone, whatever was called ahead of it, and however often it is called.
func TestNothingIsKept(t *testing.T) {
	for range 20 {
		for _, s := range told {
			s.check(t)
		}
		// What waits for its end waits no longer than the call.
		said{"RLI R", "0 1", 0, "0-0 1-1", "0: 0 L L; 1: 1 R R"}.check(t)
		said{"R L PDI", "0 1 0", 0, "0-0 1-1 2-2", "0: 0 L R; 1: 1 R R; 2: 0 R L"}.check(t)
		checkRight(t, at([]int{0, 1}, []int{2}), 3, true)
		checkRight(t, at([]int{1}, []int{2}), 3, true)
		checkRight(t, at([]int{1}, []int{1}), 3, false)
	}
	// The same lists, with something else in them.
	classes, levels := read("RLI R PDI"), []int{0, 1, 0}
	said{"", "", 0, "0-0 1-1 2-2", "0 2: 0 L L; 1: 1 R R"}.checkOf(t, classes, levels)
	classes[1] = api.BN
	said{"", "", 0, "0-2", "0 2: 0 L L"}.checkOf(t, classes, levels)
	levels[2] = 2
	said{"", "", 0, "0-0 2-2", "0 2: 0 L L"}.checkOf(t, classes, levels)
	classes[0] = api.B
	said{"", "", 0, "0-0 2-2", "0: 0 L L; 2: 2 L L"}.checkOf(t, classes, levels)
}

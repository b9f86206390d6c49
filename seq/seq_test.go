package seq_test

import (
	"math"
	"slices"
	"testing"

	"ductus/api"
	"ductus/seq"
)

// said: what is told of classes, levels and a base: the runs, as showRuns shows them, and the sequences, as showSeqs does.
type said struct {
	classes, levels string
	base            int
	runs, seqs      string
}

func (s said) check(t *testing.T) {
	t.Helper()
	s.checkOf(t, read(s.classes), read(s.levels))
}

// checkOf: the same of lists that are handed in.
func (s said) checkOf(t *testing.T, classes, levels []int) {
	t.Helper()
	if got := showRuns(seq.Runs(classes, levels)); got != s.runs {
		t.Errorf("Runs of %s at %d: %s, not %s", show(classes), levels, got, s.runs)
	}
	if got := showSeqs(seq.Of(classes, levels, s.base)); got != s.seqs {
		t.Errorf("Of %s at %d, base %d: %s, not %s", show(classes), levels, s.base, got, s.seqs)
	}
}

// Bases, some of them no level.
var bases = []int{0, 1, 2, 3, -1, -2, 125, 126, 127, 1 << 16, 1<<32 + 1, math.MaxInt32, math.MinInt32, math.MaxInt, math.MinInt}

// P8.1: the chapter's example.
func TestExample(t *testing.T) {
	said{"RLI L PDI", "0 1 0", 0, "0-0 1-1 2-2", "0 2: 0 L L; 1: 1 R R"}.check(t)
	said{"RLI R PDI", "0 1 0", 0, "0-0 1-1 2-2", "0 2: 0 L L; 1: 1 R R"}.check(t)
}

// P8.1: nothing is told of nothing, of lists of unlike length, and where all is left out.
func TestNothing(t *testing.T) {
	for _, base := range bases {
		for _, empty := range [][]int{nil, {}} {
			for _, other := range [][]int{nil, {}} {
				said{base: base}.checkOf(t, empty, other)
			}
			for n := 1; n < 4; n++ {
				said{base: base}.checkOf(t, empty, make([]int, n))
				said{base: base}.checkOf(t, make([]int, n), empty)
			}
		}
		l := read("L RLI R PDI B L BN R")
		for i := range l {
			for j := range l {
				if i != j {
					said{base: base}.checkOf(t, l[:i], make([]int, j))
					said{base: base}.checkOf(t, l[len(l)-i:], make([]int, j))
				}
			}
		}
		for _, k := range outs {
			for n := 1; n < 5; n++ {
				said{base: base}.checkOf(t, slices.Repeat([]int{k}, n), make([]int, n))
				said{base: base}.checkOf(t, slices.Repeat([]int{k}, n), []int{3, 0, -1, 2}[:n])
			}
		}
		said{base: base}.checkOf(t, outs, []int{0, 1, 2, 3, 4, 5})
	}
}

// P8.1: one of each class that is kept, alone.
func TestEachAlone(t *testing.T) {
	for _, k := range append(append(slices.Clone(others), opens...), noClasses...) {
		for _, x := range []said{
			{levels: "0", base: 0, seqs: "0: 0 L L"}, {levels: "0", base: 1, seqs: "0: 0 R R"}, {levels: "1", base: 0, seqs: "0: 1 R R"},
			{levels: "1", base: 1, seqs: "0: 1 R R"}, {levels: "2", base: 1, seqs: "0: 2 L L"}, {levels: "1", base: 2, seqs: "0: 1 L L"},
			{levels: "125", base: 0, seqs: "0: 125 R R"}, {levels: "126", base: 1, seqs: "0: 126 L L"}, {levels: "-3", base: -4, seqs: "0: -3 R R"},
		} {
			x.runs = "0-0"
			x.checkOf(t, []int{k}, read(x.levels))
		}
	}
}

// P8.1: one level alone, and levels that change at each place.
func TestLevels(t *testing.T) {
	for _, s := range []said{
		{"L R ON", "0 0 0", 0, "0-2", "0 1 2: 0 L L"}, {"L R ON", "0 0 0", 1, "0-2", "0 1 2: 0 R R"}, {"L R ON", "1 1 1", 0, "0-2", "0 1 2: 1 R R"}, {"L R", "2 2", 0, "0-1", "0 1: 2 L L"}, {"L R", "2 2", 1, "0-1", "0 1: 2 L L"},
		{"L R AL EN ES ET AN CS NSM S WS ON PDI", "7*13", 6, "0-12", "0 1 2 3 4 5 6 7 8 9 10 11 12: 7 R R"},
		// Up, down, up and down.
		{"L R L R", "0 1 2 3", 0, "0-0 1-1 2-2 3-3", "0: 0 L R; 1: 1 R L; 2: 2 L R; 3: 3 R R"},
		{"L R L R", "3 2 1 0", 0, "0-0 1-1 2-2 3-3", "0: 3 R R; 1: 2 R L; 2: 1 L R; 3: 0 R L"},
		{"L R L R", "0 1 0 1", 0, "0-0 1-1 2-2 3-3", "0: 0 L R; 1: 1 R R; 2: 0 R R; 3: 1 R R"},
		{"R R R R", "1 2 1 2", 1, "0-0 1-1 2-2 3-3", "0: 1 R L; 1: 2 L L; 2: 1 L L; 3: 2 L L"},
		{"L L L", "0 2 4", 0, "0-0 1-1 2-2", "0: 0 L L; 1: 2 L L; 2: 4 L L"}, {"L L L", "5 3 5", 0, "0-0 1-1 2-2", "0: 5 R R; 1: 3 R R; 2: 5 R R"},
		// Several of each.
		{"L R ON L L ON", "0 0 1 1 1 0", 0, "0-1 2-4 5-5", "0 1: 0 L R; 2 3 4: 1 R R; 5: 0 R L"}, {"L L R R", "2 2 1 1", 1, "0-1 2-3", "0 1: 2 L L; 2 3: 1 L R"},
	} {
		s.check(t)
	}
}

// P8.1: what is left out isn't looked at, its level neither, wherever it stands.
func TestLeftOut(t *testing.T) {
	for _, s := range []said{
		// At the beginning, and at the end.
		{"RLE BN L", "4 6 1", 0, "2-2", "2: 1 R R"}, {"BN L", "1 0", 0, "1-1", "1: 0 L L"}, {"L PDF BN", "1 4 6", 0, "0-0", "0: 1 R R"}, {"L BN", "0 1", 0, "0-0", "0: 0 L L"}, {"LRO RLO L R PDF PDF", "0 1 2 2 3 3", 0, "2-3", "2 3: 2 L L"},
		// Within a run.
		{"L LRE R", "1 8 1", 0, "0-2", "0 2: 1 R R"}, {"L RLE PDF BN R", "0 1 2 3 0", 0, "0-4", "0 4: 0 L L"}, {"L BN R BN ON", "2 0 2 1 2", 0, "0-4", "0 2 4: 2 L L"},
		// Between two of unlike levels.
		{"L RLE R", "0 9 2", 0, "0-0 2-2", "0: 0 L L; 2: 2 L L"}, {"R PDF L", "1 8 0", 0, "0-0 2-2", "0: 1 R R; 2: 0 R L"}, {"L BN LRO R", "0 0 1 1", 0, "0-0 3-3", "0: 0 L R; 3: 1 R R"}, {"L BN R", "0 1 1", 0, "0-0 2-2", "0: 0 L R; 2: 1 R R"}, {"L BN R", "0 0 1", 0, "0-0 2-2", "0: 0 L R; 2: 1 R R"},
		// Behind a B, and ahead of it.
		{"L BN B BN L", "0 9 0 9 0", 0, "0-2 4-4", "0 2: 0 L L; 4: 0 L L"}, {"B RLE B", "1 8 1", 2, "0-0 2-2", "0: 1 L L; 2: 1 R L"}, {"BN B PDF", "1 0 1", 0, "1-1", "1: 0 L L"},
		// Between an isolate's beginning and what is within, and its end.
		{"RLI BN R BN PDI", "0 8 1 8 0", 0, "0-0 2-2 4-4", "0 4: 0 L L; 2: 1 R R"}, {"BN LRI RLE L PDF PDI BN", "3 0 2 2 4 0 3", 0, "1-1 3-3 5-5", "1 5: 0 L L; 3: 2 L L"}, {"RLI PDF PDI", "0 1 0", 0, "0-2", "0 2: 0 L L"}, {"RLI BN", "0 1", 0, "0-0", "0: 0 L L"},
		// The end stands first in its run also if something is left out ahead of it, of its own level.
		{"RLI R PDF PDI", "0 1 0 0", 0, "0-0 1-1 3-3", "0 3: 0 L L; 1: 1 R R"}, {"RLI RLE R PDI", "0 0 1 0", 0, "0-0 2-2 3-3", "0 3: 0 L L; 2: 1 R R"},
		// All of them between two.
		{"L LRE LRO RLE RLO PDF BN L", "1 2 2 2 2 2 2 1", 0, "0-7", "0 7: 1 R R"}, {"L LRE LRO RLE RLO PDF BN R", "0 3 3 3 3 3 3 2", 0, "0-0 7-7", "0: 0 L L; 7: 2 L L"},
	} {
		s.check(t)
	}
}

// P8.1: a run ends behind each B, though all have one level.
func TestBreaks(t *testing.T) {
	for _, s := range []said{
		{"B", "0", 0, "0-0", "0: 0 L L"}, {"B", "0", 1, "0-0", "0: 0 R R"},
		// Within, at the beginning, at the end, one behind another.
		{"L B L", "0 0 0", 0, "0-1 2-2", "0 1: 0 L L; 2: 0 L L"}, {"B L", "1 1", 1, "0-0 1-1", "0: 1 R R; 1: 1 R R"}, {"L R B", "0 0 0", 0, "0-2", "0 1 2: 0 L L"}, {"B B", "1 1", 1, "0-0 1-1", "0: 1 R R; 1: 1 R R"},
		{"L B B L", "0 0 0 0", 0, "0-1 2-2 3-3", "0 1: 0 L L; 2: 0 L L; 3: 0 L L"}, {"L B R B ON B", "2*6", 0, "0-1 2-3 4-5", "0 1: 2 L L; 2 3: 2 L L; 4 5: 2 L L"}, {"B B B", "0 0 0", 0, "0-0 1-1 2-2", "0: 0 L L; 1: 0 L L; 2: 0 L L"},
		// Of another level than what is ahead of it, or behind it.
		{"L B", "1 0", 0, "0-0 1-1", "0: 1 R R; 1: 0 R L"}, {"B L", "0 1", 0, "0-0 1-1", "0: 0 L L; 1: 1 R R"}, {"R B R", "1 0 1", 0, "0-0 1-1 2-2", "0: 1 R R; 1: 0 R L; 2: 1 R R"}, {"L R B", "0 1 1", 0, "0-0 1-2", "0: 0 L R; 1 2: 1 R R"},
		// Behind a last place that is B comes the base, not what is behind it; ahead of a first place behind it comes its own level, not the base.
		{"R B L", "1 1 2", 1, "0-1 2-2", "0 1: 1 R R; 2: 2 L L"}, {"R B L", "1 1 2", 4, "0-1 2-2", "0 1: 1 L L; 2: 2 L L"}, {"L B R", "2 2 2", 3, "0-1 2-2", "0 1: 2 R R; 2: 2 L R"}, {"L B R", "0 0 1", 0, "0-1 2-2", "0 1: 0 L L; 2: 1 R R"}, {"L B R", "0 4 1", 0, "0-0 1-1 2-2", "0: 0 L L; 1: 4 L L; 2: 1 L R"},
		{"L B R", "0 3 2", 0, "0-0 1-1 2-2", "0: 0 L R; 1: 3 R R; 2: 2 R L"},
		// No other class ends a run.
		{"L S WS L", "0 0 0 0", 0, "0-3", "0 1 2 3: 0 L L"},
	} {
		s.check(t)
	}
	for _, k := range append(slices.Clone(others), noClasses...) {
		if k != api.B {
			said{"", "", 0, "0-2", "0 1 2: 0 L L"}.checkOf(t, []int{api.R, k, api.L}, []int{0, 0, 0})
		}
	}
	for _, k := range opens {
		said{"", "", 0, "0-2", "0 1 2: 1 R R"}.checkOf(t, []int{api.R, k, api.L}, []int{1, 1, 1})
	}
}

// P8.1: isolates with an end, each kind: they go on where it stands first in its run, if they stand last in theirs.
func TestIsolates(t *testing.T) {
	for _, s := range []said{
		// Last, and the end first.
		{"FSI L PDI", "0 2 0", 0, "0-0 1-1 2-2", "0 2: 0 L L; 1: 2 L L"}, {"L FSI R PDI L", "0 0 1 0 0", 0, "0-1 2-2 3-4", "0 1 3 4: 0 L L; 2: 1 R R"}, {"FSI R PDI", "1 3 1", 1, "0-0 1-1 2-2", "0 2: 1 R R; 1: 3 R R"},
		// Last, the end not first: behind it comes the base all the same.
		{"FSI R PDI", "0 1 1", 0, "0-0 1-2", "0: 0 L L; 1 2: 1 R R"}, {"FSI R PDI", "0 1 1", 1, "0-0 1-2", "0: 0 R R; 1 2: 1 R R"}, {"R FSI L ON PDI", "1 1 0 2 2", 4, "0-1 2-2 3-4", "0 1: 1 L L; 2: 0 R L; 3 4: 2 L L"}, {"FSI R PDI L", "0 1 1 0", 0, "0-0 1-2 3-3", "0: 0 L L; 1 2: 1 R R; 3: 0 R L"},
		// Not last, the end first.
		{"FSI R PDI", "1 1 0", 0, "0-1 2-2", "0 1: 1 R R; 2: 0 R L"}, {"FSI R ON PDI", "0 0 1 0", 0, "0-1 2-2 3-3", "0 1: 0 L R; 2: 1 R R; 3: 0 R L"}, {"FSI FSI R PDI PDI", "0 0 1 0 0", 0, "0-1 2-2 3-4", "0 1 3 4: 0 L L; 2: 1 R R"},
		// Neither.
		{"FSI R PDI", "0 0 0", 0, "0-2", "0 1 2: 0 L L"}, {"FSI R L PDI", "1 1 0 0", 0, "0-1 2-3", "0 1: 1 R R; 2 3: 0 R L"}, {"FSI PDI", "0 0", 0, "0-1", "0 1: 0 L L"},
		// The end has another level: the first place's is the sequence's, but behind it counts the last one's.
		{"FSI PDI", "0 1", 0, "0-0 1-1", "0 1: 0 L R"}, {"FSI PDI", "1 0", 0, "0-0 1-1", "0 1: 1 R L"}, {"FSI L PDI", "0 2 1", 0, "0-0 1-1 2-2", "0 2: 0 L R; 1: 2 L L"}, {"FSI R PDI L", "0 1 2 2", 3, "0-0 1-1 2-3", "0 2 3: 0 R R; 1: 1 R L"}, {"FSI R PDI L", "4 1 2 3", 0, "0-0 1-1 2-2 3-3", "0 2: 4 L R; 1: 1 L L; 3: 3 R R"},
	} {
		for _, k := range opens {
			l := read(s.classes)
			for i := range l {
				if l[i] == api.FSI {
					l[i] = k
				}
			}
			s.checkOf(t, l, read(s.levels))
		}
	}
}

// P8.1: isolates in one another, behind one another, without an end, and ends of none.
func TestManyIsolates(t *testing.T) {
	for _, s := range []said{
		// One in another.
		{"RLI LRI L PDI PDI", "0 1 2 1 0", 0, "0-0 1-1 2-2 3-3 4-4", "0 4: 0 L L; 1 3: 1 R R; 2: 2 L L"}, {"L RLI R LRI FSI L PDI PDI R PDI L", "0 0 1 1 2 4 2 1 1 0 0", 0, "0-1 2-3 4-4 5-5 6-6 7-8 9-10", "0 1 9 10: 0 L L; 2 3 7 8: 1 R R; 4 6: 2 L L; 5: 4 L L"}, {"RLI LRI PDI PDI", "0 1 1 0", 0, "0-0 1-2 3-3", "0 3: 0 L L; 1 2: 1 R R"},
		// One behind another: each goes on in the next.
		{"RLI R PDI RLI R PDI", "0 1 0 0 1 0", 0, "0-0 1-1 2-3 4-4 5-5", "0 2 3 5: 0 L L; 1: 1 R R; 4: 1 R R"}, {"L RLI R PDI L LRI L PDI L", "0 0 1 0 0 0 2 0 0", 0, "0-1 2-2 3-5 6-6 7-8", "0 1 3 4 5 7 8: 0 L L; 2: 1 R R; 6: 2 L L"}, {"RLI R PDI L RLI R PDI", "0 1 0 2 0 1 0", 0, "0-0 1-1 2-2 3-3 4-4 5-5 6-6", "0 2: 0 L L; 1: 1 R R; 3: 2 L L; 4 6: 0 L L; 5: 1 R R"},
		// Two behind one another within a third one.
		{"RLI LRI L PDI LRI L PDI PDI", "0 1 2 1 1 2 1 0", 0, "0-0 1-1 2-2 3-4 5-5 6-6 7-7", "0 7: 0 L L; 1 3 4 6: 1 R R; 2: 2 L L; 5: 2 L L"},
		// Without an end: behind it comes the base.
		{"RLI R", "0 1", 0, "0-0 1-1", "0: 0 L L; 1: 1 R R"}, {"LRI L", "1 2", 1, "0-0 1-1", "0: 1 R R; 1: 2 L L"}, {"L RLI", "0 0", 0, "0-1", "0 1: 0 L L"}, {"L FSI", "0 0", 1, "0-1", "0 1: 0 R R"}, {"RLI LRI L", "0 1 2", 0, "0-0 1-1 2-2", "0: 0 L L; 1: 1 R R; 2: 2 L L"}, {"RLI R L", "0 0 1", 0, "0-1 2-2", "0 1: 0 L R; 2: 1 R R"},
		// The inner one has an end, the outer one hasn't.
		{"RLI LRI L PDI", "0 1 2 1", 0, "0-0 1-1 2-2 3-3", "0: 0 L L; 1 3: 1 R R; 2: 2 L L"}, {"RLI LRI L PDI", "0 1 2 0", 0, "0-0 1-1 2-2 3-3", "0: 0 L L; 1 3: 1 R L; 2: 2 L L"},
		// Ends of none.
		{"PDI", "0", 0, "0-0", "0: 0 L L"}, {"R PDI L", "1 0 0", 0, "0-0 1-2", "0: 1 R R; 1 2: 0 R L"}, {"PDI PDI RLI R PDI PDI", "0 1 0 1 0 1", 0, "0-0 1-1 2-2 3-3 4-4 5-5", "0: 0 L R; 1: 1 R R; 2 4: 0 R R; 3: 1 R R; 5: 1 R R"},
		// Left standing across a B.
		{"RLI B PDI", "0 0 0", 0, "0-1 2-2", "0 1: 0 L L; 2: 0 L L"}, {"RLI R B PDI", "0 1 0 0", 0, "0-0 1-1 2-2 3-3", "0: 0 L L; 1: 1 R R; 2: 0 R L; 3: 0 L L"}, {"RLI B PDI", "0 1 0", 0, "0-0 1-1 2-2", "0: 0 L L; 1: 1 R R; 2: 0 R L"}, {"RLI LRI L B PDI PDI", "0 1 2 0 0 1", 0, "0-0 1-1 2-2 3-3 4-4 5-5", "0: 0 L L; 1: 1 R R; 2: 2 L L; 3: 0 L L; 4: 0 L R; 5: 1 R R"},
		{"RLI L B RLI R PDI", "0 1 0 0 1 0", 0, "0-0 1-1 2-2 3-3 4-4 5-5", "0: 0 L L; 1: 1 R R; 2: 0 R L; 3 5: 0 L L; 4: 1 R R"}, {"RLI R PDI B PDI", "0 1 0 0 0", 0, "0-0 1-1 2-3 4-4", "0 2 3: 0 L L; 1: 1 R R; 4: 0 L L"}, {"LRI L B R PDI", "1 2 1 1 1", 1, "0-0 1-1 2-2 3-4", "0: 1 R R; 1: 2 L L; 2: 1 L R; 3 4: 1 R R"},
		// Embeddings' ends are no isolates' ones.
		{"RLI RLE R PDF R PDI", "0 1 3 3 1 0", 0, "0-0 2-2 4-4 5-5", "0 5: 0 L L; 2: 3 R R; 4: 1 R R"},
	} {
		s.check(t)
	}
}

// P8.1: Sos and Eos go by the greater level, at each of some levels ahead, behind, and at each base; what is left out, ahead, behind and between, says nothing.
func TestSosAndEos(t *testing.T) {
	span := []int{-3, -2, -1, 0, 1, 2, 3, 4}
	for _, a := range span {
		for _, b := range span {
			for _, base := range span {
				checkSosAndEos(t, a, b, base)
			}
		}
	}
}

// checkSosAndEos: two that are kept, of two levels, with others that are left out, of whatever level.
func checkSosAndEos(t *testing.T, a, b, base int) {
	t.Helper()
	first := api.Seq{At: []int{1}, Level: a, Sos: greater(a, base), Eos: greater(a, b)}
	// Behind a B, and an isolate's beginning, comes the base.
	ended := api.Seq{At: []int{1}, Level: a, Sos: greater(a, base), Eos: greater(a, base)}
	second := api.Seq{At: []int{3}, Level: b, Sos: greater(b, a), Eos: greater(b, base)}
	both := []api.Seq{{At: []int{1, 3}, Level: a, Sos: greater(a, base), Eos: greater(b, base)}}
	for _, between := range []int{a - 1, b + 1, 7, -8} {
		levels := []int{between, a, between, b, between}
		checkSeqs(t, read("RLE B BN R PDF"), levels, base, []api.Seq{ended, second})
		// An isolate's beginning, and its end: one sequence, whatever its levels.
		checkSeqs(t, read("PDF LRI PDF PDI BN"), levels, base, both)
		if a == b {
			checkSeqs(t, read("RLE L BN R PDF"), levels, base, both)
			checkSeqs(t, read("LRO RLI RLO R BN"), levels, base, both)
			continue
		}
		checkSeqs(t, read("RLE L BN R PDF"), levels, base, []api.Seq{first, second})
		checkSeqs(t, read("BN PDI LRE RLI BN"), levels, base, []api.Seq{first, second})
		checkSeqs(t, read("LRO RLI RLO R BN"), levels, base, []api.Seq{ended, second})
		checkSeqs(t, read("LRE FSI LRE B BN"), levels, base, []api.Seq{ended, second})
	}
}

func checkSeqs(t *testing.T, classes, levels []int, base int, want []api.Seq) {
	t.Helper()
	if got := seq.Of(classes, levels, base); !slices.EqualFunc(got, want, sameSeq) {
		t.Errorf("Of %s at %d, base %d: %s, not %s", show(classes), levels, base, showSeqs(got), showSeqs(want))
	}
}

// P8.1: levels that are none: below 0, and great ones; those that are unlike in their high bits alone are unlike.
func TestStrangeLevels(t *testing.T) {
	for _, s := range []said{
		{"L R", "-1 -2", 0, "0-0 1-1", "0: -1 L R; 1: -2 R L"}, {"L R", "-1 -2", -3, "0-0 1-1", "0: -1 R R; 1: -2 R L"}, {"L R L", "-1 -1 1", -5, "0-1 2-2", "0 1: -1 R R; 2: 1 R R"}, {"L R", "126 127", 0, "0-0 1-1", "0: 126 L R; 1: 127 R R"},
		{"RLI R PDI", "-4 -3 -4", -4, "0-0 1-1 2-2", "0 2: -4 L L; 1: -3 R R"}, {"RLI R PDI", "1000 1001 1000", 0, "0-0 1-1 2-2", "0 2: 1000 L L; 1: 1001 R R"}, {"L R", "-7 -7", math.MinInt, "0-1", "0 1: -7 R R"},
		{"L R", "9223372036854775807 -9223372036854775808", 0, "0-0 1-1", "0: 9223372036854775807 R R; 1: -9223372036854775808 R L"}, {"L R", "-9223372036854775808 -9223372036854775807", math.MinInt, "0-0 1-1", "0: -9223372036854775808 L R; 1: -9223372036854775807 R R"},
		{"L R", "9223372036854775806 9223372036854775806", math.MaxInt, "0-1", "0 1: 9223372036854775806 R R"},
		{"L R", "0 4294967296", 0, "0-0 1-1", "0: 0 L L; 1: 4294967296 L L"}, {"L R", "1 257", 0, "0-0 1-1", "0: 1 R R; 1: 257 R R"}, {"L R", "1 65537", 65536, "0-0 1-1", "0: 1 L R; 1: 65537 R R"}, {"L R", "2 4294967297", 0, "0-0 1-1", "0: 2 L R; 1: 4294967297 R R"},
	} {
		s.check(t)
	}
}

// P8.1: numbers that are no class are kept, end no run, and begin and end no isolate, though they be another class in fewer bits.
func TestNoClasses(t *testing.T) {
	for _, k := range noClasses {
		for _, s := range []struct {
			classes []int
			said
		}{
			{[]int{k, k, k}, said{"", "0 0 1", 0, "0-1 2-2", "0 1: 0 L R; 2: 1 R R"}},
			{[]int{api.BN, k, api.BN}, said{"", "3 0 3", 0, "1-1", "1: 0 L L"}},
			{[]int{api.R, k, api.L}, said{"", "2 2 2", 0, "0-2", "0 1 2: 2 L L"}},
			{[]int{k, api.R, api.PDI}, said{"", "0 1 0", 0, "0-0 1-1 2-2", "0: 0 L R; 1: 1 R R; 2: 0 R L"}},
			{[]int{api.RLI, api.R, k}, said{"", "0 1 0", 0, "0-0 1-1 2-2", "0: 0 L L; 1: 1 R R; 2: 0 R L"}},
			{[]int{api.RLI, k, api.PDI}, said{"", "0 1 0", 0, "0-0 1-1 2-2", "0 2: 0 L L; 1: 1 R R"}},
		} {
			s.checkOf(t, s.classes, read(s.levels))
		}
	}
}

// P8.1: a level's direction.
func TestDir(t *testing.T) {
	for level := -300; level <= 300; level++ {
		want := api.R
		if level/2*2 == level {
			want = api.L
		}
		if got := seq.Dir(level); got != want {
			t.Errorf("Dir of %d: %d, not %d", level, got, want)
		}
	}
	for _, x := range [][2]int{
		{0, api.L}, {1, api.R}, {2, api.L}, {-1, api.R}, {-2, api.L}, {-3, api.R}, {125, api.R}, {126, api.L}, {1 << 32, api.L}, {1<<32 + 1, api.R}, {-1<<32 + 1, api.R}, {-1 << 62, api.L},
		{math.MaxInt, api.R}, {math.MaxInt - 1, api.L}, {math.MinInt, api.L}, {math.MinInt + 1, api.R}, {math.MaxInt32, api.R}, {math.MinInt32, api.L},
	} {
		if got := seq.Dir(x[0]); got != x[1] {
			t.Errorf("Dir of %d: %d, not %d", x[0], got, x[1])
		}
	}
}

// checkSaid: Runs and Of are as the chapter's words say, at each base of some.
func checkSaid(t *testing.T, classes, levels []int, bases ...int) {
	t.Helper()
	var runs [][2]int
	for _, r := range (oracle{classes, levels, 0}).runs() {
		runs = append(runs, [2]int{r[0], r[len(r)-1]})
	}
	if got := seq.Runs(classes, levels); !slices.Equal(got, runs) {
		t.Errorf("Runs of %s at %d: %s, not %s", show(classes), levels, showRuns(got), showRuns(runs))
	}
	for _, base := range bases {
		checkSeqs(t, classes, levels, base, oracle{classes, levels, base}.seqs())
	}
	if t.Failed() {
		t.FailNow()
	}
}

// P8.1: each short list of what says anything, at a few levels.
func TestShortLists(t *testing.T) {
	for classes, levels := range every(letters(read("L B BN RLI PDI"), []int{0, 1}), 5) {
		checkSaid(t, classes, levels, 0, 1)
	}
	for classes, levels := range every(letters(read("LRI FSI PDI ON"), []int{0, 1, 2}), 4) {
		checkSaid(t, classes, levels, 0, 1, 3)
	}
	for classes, levels := range every(letters(read("RLI PDI"), []int{0, 1}), 7) {
		checkSaid(t, classes, levels, 0)
	}
	for classes, levels := range every(letters(read("B R PDF FSI PDI"), []int{-1, 4, math.MinInt, math.MaxInt}), 3) {
		checkSaid(t, classes, levels, bases...)
	}
}

// P8.1: each two, and three, of all classes and of what is none.
func TestEachClassTogether(t *testing.T) {
	all := letters(append(slices.Clone(noClasses[:2]), classes...), []int{0, 1})
	for classes, levels := range every(all, 2) {
		checkSaid(t, classes, levels, 0, 1, 2)
		checkSaid(t, append([]int{api.RLI}, classes...), append([]int{0}, levels...), 0, 1)
		checkSaid(t, append(classes, api.PDI), append(levels, 0), 0, 1)
		checkSaid(t, slices.Insert(classes, len(classes)/2, api.R), slices.Insert(levels, len(levels)/2, 2), 0, 1)
	}
}

// P8.1: mixed lists.
func TestMixedLists(t *testing.T) {
	for _, x := range []struct {
		common string
		levels []int
	}{
		{"L R ON B BN RLE PDF LRI RLI FSI PDI PDI PDI", []int{0, 1}},
		{"LRI RLI FSI PDI PDI PDI", []int{0, 0, 0, 1, 2}},
		{"RLI RLI RLI PDI PDI PDI BN B L", []int{0, 1, 2, 3, 4, 5, -1, -2}},
		{"L R AL EN ES ET AN CS NSM BN B S WS ON LRE LRO RLE RLO PDF LRI RLI FSI PDI 23 -1 99", []int{0, 1, 1, 2, 125, 126}},
	} {
		for classes, levels := range mixed(letters(read(x.common), x.levels), 1500, 40) {
			checkSaid(t, classes, levels, 0, 1, 2)
		}
	}
}

// places: from one up to another one, that isn't of it, each so many behind the other.
func places(from, to, step int) []int {
	var out []int
	for i := from; i < to; i += step {
		out = append(out, i)
	}
	return out
}

// P8.1: long lists: one run, very many, very many isolates behind one another, and in one another.
func TestLong(t *testing.T) {
	for _, n := range []int{63, 126, 128, 300, 4001, 1 << 16} {
		whole := []api.Seq{{At: places(0, n, 1), Level: 0, Sos: api.L, Eos: api.L}}
		checkLong(t, slices.Repeat([]int{api.L}, n), make([]int, n), 0, 1, whole)
		third := []api.Seq{{At: places(1, 3*n, 3), Level: 1, Sos: api.R, Eos: api.R}}
		checkLong(t, slices.Repeat(read("BN R PDF"), n), slices.Repeat([]int{0, 1, 2}, n), 0, 1, third)
		alone := make([]api.Seq, n)
		for i := range alone {
			alone[i] = api.Seq{At: []int{i}, Level: 1, Sos: api.R, Eos: api.L}
		}
		alone[0].Sos = api.L
		checkLong(t, slices.Repeat([]int{api.B}, n), slices.Repeat([]int{1}, n), 2, n, alone)
		flat := []api.Seq{{At: slices.DeleteFunc(places(0, 3*n, 1), func(p int) bool { return p%3 == 1 }), Level: 0, Sos: api.L, Eos: api.L}}
		for i := range n {
			flat = append(flat, api.Seq{At: []int{3*i + 1}, Level: 1, Sos: api.R, Eos: api.R})
		}
		checkLong(t, slices.Repeat(read("RLI R PDI"), n), slices.Repeat([]int{0, 1, 0}, n), 0, 2*n+1, flat)
		deep, levels := slices.Concat(slices.Repeat([]int{api.FSI}, n), []int{api.L}, slices.Repeat([]int{api.PDI}, n)), make([]int, 2*n+1)
		var within []api.Seq
		for i := range n + 1 {
			levels[i], levels[2*n-i] = 2*i, 2*i
			within = append(within, api.Seq{At: []int{i, 2*n - i}, Level: 2 * i, Sos: api.L, Eos: api.L})
		}
		within[n].At = []int{n}
		checkLong(t, deep, levels, 0, 2*n+1, within)
	}
}

// checkLong: so many runs, and the sequences; only that they are others is told, as they are too long.
func checkLong(t *testing.T, classes, levels []int, base, runs int, want []api.Seq) {
	t.Helper()
	if got := seq.Runs(classes, levels); len(got) != runs {
		t.Errorf("Runs of %d: %d, not %d", len(classes), len(got), runs)
	}
	if got := seq.Of(classes, levels, base); !slices.EqualFunc(got, want, sameSeq) {
		t.Errorf("Of %d, %s ...: %d sequences, not %d, or others", len(classes), show(classes[:3]), len(got), len(want))
	}
	checkRight(t, want, len(classes), true)
	checkRight(t, want, len(classes)-2, false)
}

package seq_test

import (
	"slices"
	"testing"

	"ductus/api"
	"ductus/base"
	"ductus/explicit"
	"ductus/sample"
	"ductus/seq"
)

// Mixtures of classes, which are met so often more than others.
var mixtures = []string{
	"",
	"LRI RLI FSI PDI PDI PDI",
	"RLE LRE RLO LRO PDF PDF PDF PDF",
	"LRI RLI FSI PDI PDI PDI RLE LRE PDF PDF",
	"RLI RLE L R PDI PDI PDF BN",
	"LRI RLI FSI RLE LRE RLO LRO",
	"L R ON BN",
}

// checkOnce: with the levels that layer 6 tells of classes each place that isn't left out is in one sequence, no other is, all of a sequence have one level, and sequences come by their first places. It answers how many of them go on from run to run.
func checkOnce(t *testing.T, classes []int, base int) int {
	t.Helper()
	levels, _ := explicit.Of(classes, base)
	l := seq.Of(classes, levels, base)
	times := make([]int, len(classes))
	for n, s := range l {
		if len(s.At) == 0 || n > 0 && l[n-1].At[0] >= s.At[0] {
			t.Fatalf("Of %s at %d: %s isn't by their first places", show(classes), base, showSeqs(l))
		}
		for i, p := range s.At {
			if p < 0 || p >= len(classes) || i > 0 && s.At[i-1] >= p {
				t.Fatalf("Of %s at %d: %s: %d", show(classes), base, showSeqs(l), p)
			}
			times[p]++
			if levels[p] != s.Level {
				t.Errorf("Of %s at %d: %s: %d has level %d", show(classes), base, showSeqs(l), p, levels[p])
			}
		}
	}
	for i, k := range classes {
		want := 1
		if slices.Contains(outs, k) {
			want = 0
		}
		if times[i] != want {
			t.Errorf("Of %s at %d: %s: %d is there %d times", show(classes), base, showSeqs(l), i, times[i])
		}
	}
	checkRight(t, l, len(classes), true)
	checkJoined(t, classes, levels, l)
	return len(seq.Runs(classes, levels)) - len(l)
}

// checkJoined: with layer 6's levels an isolate's beginning and its end are in one sequence; each run is a part of one, and there is nothing else in them.
func checkJoined(t *testing.T, classes, levels []int, l []api.Seq) {
	t.Helper()
	// Of each place its sequence, and how many are ahead of it there.
	where := map[int][2]int{}
	for n, s := range l {
		for i, p := range s.At {
			where[p] = [2]int{n, i}
		}
	}
	for i, end := range base.Match(classes) {
		if end > i && where[i][0] != where[end][0] {
			t.Errorf("Of %s at %d: %s: %d goes on in %d", show(classes), levels, showSeqs(l), i, end)
		}
	}
	runs := seq.Runs(classes, levels)
	many := 0
	for _, r := range runs {
		first, last := where[r[0]], where[r[1]]
		if r[0] > r[1] || first[0] != last[0] || levels[r[0]] != levels[r[1]] {
			t.Errorf("Runs of %s at %d: %s: %d", show(classes), levels, showRuns(runs), r)
		}
		many += last[1] - first[1] + 1
	}
	if many != len(where) {
		t.Errorf("Runs of %s at %d: %s: %d places, not %d", show(classes), levels, showRuns(runs), many, len(where))
	}
}

// P8.2: over many lists of mixed classes, with the levels that layer 6 tells of them.
func TestOnce(t *testing.T) {
	joined := 0
	for _, m := range mixtures {
		for _, often := range []int{2, 20} {
			for l := range sample.Mixed(slices.Repeat(read(m), often), 1000, 60) {
				joined += checkOnce(t, l, 0) + checkOnce(t, l, 1)
			}
		}
	}
	if joined < 10000 {
		t.Errorf("so few runs go on: %d", joined)
	}
}

// P8.2: the same at each short list of what begins and ends, and at long ones.
func TestOnceOfOthers(t *testing.T) {
	joined := 0
	for l := range sample.Every(read("R RLI FSI RLE PDI B"), 5) {
		joined += checkOnce(t, l, 0) + checkOnce(t, l, 1)
	}
	for l := range sample.Every(read("LRI L PDI PDF LRO"), 5) {
		joined += checkOnce(t, l, 0) + checkOnce(t, l, 1)
	}
	for l := range sample.Mixed(slices.Repeat(read("LRI RLI FSI PDI PDI PDI RLE PDF"), 100), 30, 3000) {
		joined += checkOnce(t, l, 0) + checkOnce(t, l, 1)
	}
	if joined < 5000 {
		t.Errorf("so few runs go on: %d", joined)
	}
}

// P8.2: the same where isolates and embeddings overflow.
func TestOnceOfDeep(t *testing.T) {
	for _, x := range []string{
		"RLI*70 L PDI*70", "RLI*70 L PDI*70 R", "LRI*61 RLE*5 R FSI L PDI*63 L", "RLE*63 RLI L PDI R PDF*63", "RLE*62 RLI R LRI L PDI R PDI L", "LRE*70 LRI R PDI LRI R PDI PDF*9 R", "RLI*63 RLI R LRI L PDI PDI PDI", "RLO*63 FSI L PDI FSI R PDI PDI PDF L",
		"RLI*70 B PDI*70 L", "RLI RLE*70 PDI LRI LRE*70 PDI L", "LRI*62 LRI LRI PDI PDI*62 PDI",
	} {
		l := read(x)
		checkOnce(t, l, 0)
		checkOnce(t, l, 1)
		checkOnce(t, append(l, l...), 0)
	}
}

package explicit_test

import (
	"slices"
	"testing"

	"ductus/api"
	"ductus/explicit"
)

// checkBound: levels are from the base to 125, as many as classes, and the stack has from 1 to 127 entries. It answers the greatest level.
func checkBound(t *testing.T, l []int, base int) int {
	t.Helper()
	levels, told := explicit.Of(l, base)
	if len(levels) != len(l) || len(told) != len(l) {
		t.Fatalf("Of %s at %d: %d levels, %d classes", show(l), base, len(levels), len(told))
	}
	greatest := base
	for i, n := range levels {
		if n < base || n > 125 {
			t.Fatalf("Of %s at %d: level %d at %d", show(l), base, n, i)
		}
		if !slices.Contains(classes, told[i]) {
			t.Fatalf("Of %s at %d: %d at %d is no class", show(l), base, told[i], i)
		}
		greatest = max(greatest, n)
	}
	// Each level that is reached has its entry, and above the base there is none that skips two.
	depth := explicit.Depth(l, base)
	if depth < 1 || depth > 127 || depth < 1+(greatest-base)/2 {
		t.Fatalf("Depth of %s at %d: %d", show(l), base, depth)
	}
	return greatest
}

// P6.2: levels and the stack stay within their bounds, over many lists of mixed classes.
func TestBoundOfMixed(t *testing.T) {
	greatest := 0
	for _, x := range mixtures {
		for l := range mixedLists(slices.Repeat(read(x.common), x.often), x.many, x.most) {
			greatest = max(greatest, checkBound(t, l, 0), checkBound(t, l, 1))
		}
	}
	if greatest != 125 {
		t.Errorf("no list reaches 125, but %d", greatest)
	}
}

// P6.2: the same over many beginnings one behind another, of all kinds, by turns, and with a few others between.
func TestBoundOfBeginnings(t *testing.T) {
	beginnings := read("RLE LRE RLO LRO RLI LRI FSI")
	for turn := range everyList(beginnings, 3) {
		for _, others := range []string{"", "L", "R BN", "PDF", "PDI", "ON PDF PDI"} {
			l := slices.Repeat(append(slices.Clone(turn), read(others)...), 90)
			checkBound(t, l, 0)
			checkBound(t, l, 1)
			// Without a PDF or PDI each turn begins something as long as there is room.
			if len(turn) > 0 && (others == "" || others == "L") {
				for base := range 2 {
					if got := checkBound(t, append(l, api.ON), base); got < 124 {
						t.Errorf("90 times %s %s at %d: no level above %d", show(turn), others, base, got)
					}
				}
			}
		}
	}
	for _, l := range [][]int{slices.Repeat(beginnings, 5000), slices.Repeat(read("RLE LRI"), 40000), slices.Repeat(read("LRO"), 80000)} {
		checkBound(t, l, 0)
		checkBound(t, l, 1)
	}
}

// checkPlain: levels are the base, and classes are as they were.
func checkPlain(t *testing.T, l []int) {
	t.Helper()
	for base := range 2 {
		checkOf(t, l, base, slices.Repeat([]int{base}, len(l)), l)
		checkDepth(t, l, base, 1)
	}
}

// plain: the classes that are neither left out nor an isolate's.
var plain = read("L R AL EN ES ET AN CS NSM B S WS ON")

// P6.2: without anything that is left out, and isolates, nothing changes but levels.
func TestPlain(t *testing.T) {
	for l := range everyList(plain, 3) {
		checkPlain(t, l)
	}
	for l := range mixedLists(slices.Repeat(plain, 20), 3000, 60) {
		checkPlain(t, onlyPlain(l))
	}
	for l := range mixedLists(slices.Repeat(plain, 20), 30, 2000) {
		checkPlain(t, onlyPlain(l))
	}
	checkPlain(t, slices.Repeat(plain, 4001))
}

// onlyPlain: those of l that are neither left out nor an isolate's.
func onlyPlain(l []int) []int {
	return slices.DeleteFunc(slices.Clone(l), func(k int) bool { return !slices.Contains(plain, k) })
}

// P6.2: what is left out is one that changes no level, where it is BN; a PDI without an isolate changes none either.
func TestPlainWithBlanks(t *testing.T) {
	for l := range everyList(read("L AL ON B BN PDI"), 4) {
		checkPlain(t, l)
	}
}

// P6.2: a plain list stays as it is also within what begins, one level on.
func TestPlainWithin(t *testing.T) {
	for l := range mixedLists(slices.Repeat(plain, 20), 1000, 60) {
		l = slices.DeleteFunc(onlyPlain(l), func(k int) bool { return k == api.B })
		for _, x := range []struct {
			begin string
			level int
		}{{"RLE", 1}, {"LRE", 2}, {"RLI", 1}, {"LRI", 2}, {"RLE LRI", 2}, {"RLI RLE RLI", 5}} {
			begin := read(x.begin)
			levels, told := explicit.Of(append(begin, l...), 0)
			if !slices.Equal(levels[len(begin):], slices.Repeat([]int{x.level}, len(l))) || !slices.Equal(told[len(begin):], l) {
				t.Errorf("Of %s behind %s: %d, %s", show(l), x.begin, levels, show(told))
			}
		}
	}
}

package base_test

import (
	"math"
	"slices"
	"testing"

	"ductus/api"
	"ductus/base"
)

func checkMatch(t *testing.T, l, want []int) {
	t.Helper()
	if got := base.Match(l); !slices.Equal(got, want) {
		t.Errorf("Match of %s: %d, not %d", show(l), got, want)
	}
}

func checkFirst(t *testing.T, l []int, from, to, want int) {
	t.Helper()
	if got := base.First(l, from, to); got != want {
		t.Errorf("First of %s from %d to %d: %d, not %d", show(l), from, to, got, want)
	}
}

func checkLevel(t *testing.T, l []int, dir, want int) {
	t.Helper()
	if got := base.Level(l, dir); got != want {
		t.Errorf("Level of %s at %d: %d, not %d", show(l), dir, got, want)
	}
}

func checkIsolate(t *testing.T, l []int, i, want int) {
	t.Helper()
	if got := base.Isolate(l, i); got != want {
		t.Errorf("Isolate of %s at %d: %d, not %d", show(l), i, got, want)
	}
}

// P5.1: the chapter's example.
func TestExample(t *testing.T) {
	l := read("RLI R PDI L")
	checkLevel(t, l, api.DirAuto, 0)
	checkFirst(t, l, 0, 4, 0)
	checkMatch(t, l, []int{2, -1, 0, -1})
	checkIsolate(t, l, 0, 1)
}

// P5.1: all calls at an empty list.
func TestEmpty(t *testing.T) {
	for _, l := range [][]int{nil, {}} {
		checkMatch(t, l, nil)
		for _, x := range [][2]int{{0, 0}, {0, 1}, {-1, 1}, {1, 0}, {1, 2}, {math.MinInt, math.MaxInt}, {math.MaxInt, math.MinInt}} {
			checkFirst(t, l, x[0], x[1], -1)
		}
		checkLevel(t, l, api.DirAuto, 0)
		checkLevel(t, l, api.DirLeft, 0)
		checkLevel(t, l, api.DirRight, 1)
		checkLevel(t, l, 3, 0)
		for _, i := range []int{-1, 0, 1, math.MinInt, math.MaxInt} {
			checkIsolate(t, l, i, -1)
		}
	}
}

// P5.1: all calls at lists of each class alone, of one and of several; told in full, this hangs on no oracle.
func TestEachAlone(t *testing.T) {
	for k := range 23 {
		first, isolate := -1, -1
		switch k {
		case api.L:
			first = 0
		case api.R, api.AL:
			first = 1
		case api.LRI, api.FSI:
			isolate = 0
		case api.RLI:
			isolate = 1
		}
		for _, n := range []int{1, 2, 3, 130} {
			l := slices.Repeat([]int{k}, n)
			checkMatch(t, l, slices.Repeat([]int{-1}, n))
			checkLevel(t, l, api.DirAuto, max(first, 0))
			for i := range n {
				checkFirst(t, l, i, n, first)
				checkFirst(t, l, 0, i+1, first)
				checkIsolate(t, l, i, isolate)
			}
		}
	}
}

// P5.1: Match at isolates within and behind one another, and at what has no other one.
func TestMatch(t *testing.T) {
	for _, x := range []struct {
		l    string
		want []int
	}{
		{"LRI PDI", []int{1, 0}},
		{"RLI PDI", []int{1, 0}},
		{"FSI PDI", []int{1, 0}},
		{"L LRI R PDI AL", []int{-1, 3, -1, 1, -1}},
		// One within another.
		{"LRI RLI PDI PDI", []int{3, 2, 1, 0}},
		{"FSI L LRI R RLI AL PDI ON PDI WS PDI", []int{10, -1, 8, -1, 6, -1, 4, -1, 2, -1, 0}},
		{"RLI LRI PDI FSI PDI PDI", []int{5, 2, 1, 4, 3, 0}},
		// One behind another.
		{"LRI PDI RLI PDI FSI PDI", []int{1, 0, 3, 2, 5, 4}},
		{"RLI L PDI ON RLI PDI", []int{2, -1, 0, -1, 5, 4}},
		// A PDI that is no isolate's end.
		{"PDI", []int{-1}},
		{"PDI LRI PDI", []int{-1, 2, 1}},
		{"LRI PDI PDI", []int{1, 0, -1}},
		{"PDI PDI RLI PDI PDI FSI PDI", []int{-1, -1, 3, 2, -1, 6, 5}},
		{"R PDI L", []int{-1, -1, -1}},
		// An isolate that has no end.
		{"LRI", []int{-1}},
		{"LRI LRI PDI", []int{-1, 2, 1}},
		{"LRI RLI FSI PDI PDI", []int{-1, 4, 3, 2, 1}},
		{"FSI RLI PDI LRI", []int{-1, 2, 1, -1}},
		{"FSI L FSI R", []int{-1, -1, -1, -1}},
		// A B within an isolate.
		{"LRI B PDI", []int{-1, -1, -1}},
		{"RLI L B R PDI", []int{-1, -1, -1, -1, -1}},
		{"FSI B LRI PDI", []int{-1, -1, 3, 2}},
		{"FSI LRI B PDI PDI", []int{-1, -1, -1, -1, -1}},
		{"LRI FSI PDI B PDI RLI PDI", []int{-1, 2, 1, -1, -1, 6, 5}},
		{"LRI FSI B FSI PDI PDI", []int{-1, -1, -1, 4, 3, -1}},
		{"LRI B LRI B PDI LRI PDI B", []int{-1, -1, -1, -1, -1, 6, 5, -1}},
		{"B LRI PDI B B RLI PDI", []int{-1, 2, 1, -1, -1, 6, 5}},
		// What is no isolate's beginning, nor end, nor a paragraph's end.
		{"LRE PDF RLE PDF LRO PDF RLO PDF", []int{-1, -1, -1, -1, -1, -1, -1, -1}},
		{"LRE PDI RLO PDI", []int{-1, -1, -1, -1}},
		{"LRI PDF PDI", []int{2, -1, 0}},
		{"RLI RLE PDI PDF", []int{2, -1, 0, -1}},
		{"LRI S WS BN ON NSM PDI", []int{6, -1, -1, -1, -1, -1, 0}},
		{"LRI 23 99 -1 PDI", []int{4, -1, -1, -1, 0}},
	} {
		checkMatch(t, read(x.l), x.want)
	}
}

// P5.1: Match at long lists: isolates behind one another, and many within one another.
func TestMatchOfLong(t *testing.T) {
	for _, n := range []int{60, 63, 64, 124, 126, 127, 128, 300, 4001, 1 << 16} {
		deep := slices.Concat(slices.Repeat([]int{api.RLI}, n), []int{api.L}, slices.Repeat([]int{api.PDI}, n))
		flat := slices.Repeat([]int{api.FSI, api.PDI, api.PDI}, n)
		unended := slices.Repeat([]int{api.LRI, api.LRI, api.PDI}, n)
		paragraphs := slices.Repeat([]int{api.LRI, api.B, api.PDI, api.RLI, api.PDI, api.LRI, api.B}, n)
		wantDeep, wantFlat, wantUnended, wantParagraphs := make([]int, len(deep)), []int{}, []int{}, []int{}
		for i := range deep {
			wantDeep[i] = 2*n - i
		}
		wantDeep[n] = -1
		for i := range n {
			wantFlat = append(wantFlat, 3*i+1, 3*i, -1)
			wantUnended = append(wantUnended, -1, 3*i+2, 3*i+1)
			wantParagraphs = append(wantParagraphs, -1, -1, -1, 7*i+4, 7*i+3, -1, -1)
		}
		for _, x := range [][2][]int{{deep, wantDeep}, {flat, wantFlat}, {unended, wantUnended}, {paragraphs, wantParagraphs}} {
			if !slices.Equal(base.Match(x[0]), x[1]) {
				t.Errorf("Match of a long list of %d, %s ...: not as it should be", len(x[0]), show(x[0][:3]))
			}
		}
	}
}

// P5.1: First of a whole list.
func TestFirst(t *testing.T) {
	for _, x := range []struct {
		l    string
		want int
	}{
		// Each of the strong ones ahead of all else, and behind it.
		{"L R AL", 0}, {"R L AL", 1}, {"AL L R", 1}, {"AL R L", 1}, {"L AL", 0}, {"R AL L", 1},
		{"EN ES ET AN CS NSM BN S WS ON LRE LRO RLE RLO PDF PDI L", 0},
		{"EN ES ET AN CS NSM BN S WS ON LRE LRO RLE RLO PDF PDI R", 1},
		{"EN ES ET AN CS NSM BN S WS ON LRE LRO RLE RLO PDF PDI AL", 1},
		{"EN ES ET AN CS NSM BN S WS ON LRE LRO RLE RLO PDF PDI", -1},
		{"L EN ES ET AN CS NSM BN S WS ON RLE RLO PDF PDI R", 0},
		{"R EN ES ET AN CS NSM BN S WS ON LRE LRO PDF PDI L", 1},
		{"AL EN ES ET AN CS NSM BN S WS ON LRE LRO PDF PDI L", 1},
		// Embeddings aren't left out as isolates are.
		{"LRE R PDF L", 1}, {"RLE L PDF R", 0}, {"RLO L", 0}, {"LRO R", 1},
		// An isolate with an end.
		{"LRI L PDI R", 1}, {"RLI R PDI L", 0}, {"FSI AL PDI L", 0}, {"LRI L PDI", -1}, {"LRI PDI AL", 1},
		{"ON RLI R PDI WS L", 0}, {"L RLI R PDI", 0}, {"RLI R PDI LRI L PDI AL", 1},
		{"FSI L LRI L PDI L PDI R", 1}, {"FSI LRI PDI L PDI R", 1}, {"RLI RLI RLI R PDI R PDI R PDI L", 0},
		// An isolate without one.
		{"LRI L R AL", -1}, {"FSI L", -1}, {"R LRI L", 1}, {"RLI LRI L PDI R", -1}, {"RLI R PDI FSI L", -1}, {"LRI LRI PDI L", -1},
		// A PDI that is no isolate's end.
		{"PDI R", 1}, {"PDI PDI L", 0}, {"PDI LRI L PDI R", 1}, {"PDI LRI L", -1}, {"LRI L PDI PDI R", 1}, {"PDI PDI LRI L PDI R", 1}, {"LRI PDI PDI LRI L PDI R", 1},
		// A B ahead of the first strong one.
		{"B", -1}, {"B R", -1}, {"B L", -1}, {"ON B AL", -1}, {"R B L", 1}, {"LRI L B R", -1}, {"LRI B PDI R", -1}, {"LRI PDI B L", -1}, {"RLI B R", -1}, {"ON S R", 1},
		// What is no class counts as L.
		{"23 R", 0}, {"-1 R", 0}, {"R 23", 1}, {"ON 99 AL", 0}, {"LRI 99 PDI R", 1}, {"LRI 99 R", -1},
	} {
		l := read(x.l)
		checkFirst(t, l, 0, len(l), x.want)
		checkFirst(t, l, -1, len(l)+1, x.want)
		checkFirst(t, l, math.MinInt, math.MaxInt, x.want)
		checkFirst(t, l, -1<<32, 1<<32, x.want)
		checkFirst(t, l, -1<<32+2, 1<<32+1, x.want)
		checkLevel(t, l, api.DirAuto, max(x.want, 0))
	}
}

// P5.1: First from a place up to another one.
func TestFirstOfPart(t *testing.T) {
	for _, x := range []struct {
		l              string
		from, to, want int
	}{
		// The place from which is looked is of it, the other one isn't.
		{"L R ON", 0, 1, 0}, {"L R ON", 1, 2, 1}, {"L R ON", 1, 3, 1}, {"L R ON", 2, 3, -1}, {"ON L AL", 0, 1, -1}, {"ON L AL", 0, 2, 0}, {"ON L AL", 2, 3, 1},
		// A beginning that isn't ahead of the end.
		{"L R L", 0, 0, -1}, {"L R L", 1, 1, -1}, {"L R L", 2, 1, -1}, {"L R L", 2, 0, -1}, {"L R L", 3, 3, -1}, {"L R L", 3, 0, -1}, {"R", 1, 0, -1},
		// Places below 0, and beyond the list's end.
		{"L R L", -1, 1, 0}, {"R L", -5, 5, 1}, {"R L", -5, 0, -1}, {"R L", -5, -1, -1}, {"R L", -1, -5, -1}, {"R L", 1, 3, 0}, {"R L", 1, 1 << 40, 0}, {"R L", 2, 3, -1}, {"R L", 3, 9, -1}, {"R L", 9, 3, -1},
		{"R L", math.MinInt, 1, 1}, {"R L", 1, math.MaxInt, 0}, {"R L", math.MaxInt, math.MaxInt, -1}, {"R L", math.MinInt, math.MinInt, -1}, {"R L", math.MaxInt, math.MinInt, -1},
		{"R L", 1 << 32, 1<<32 + 2, -1}, {"R L", -1 << 32, -1<<32 + 2, -1}, {"R L", 0, -1<<32 + 2, -1}, {"R L", 1 << 32, 2, -1},
		// An isolate that began ahead counts as all else, its end, too.
		{"RLI L PDI R", 1, 4, 0}, {"RLI L PDI R", 2, 4, 1}, {"RLI L PDI R", 2, 3, -1}, {"LRI ON PDI R", 1, 4, 1}, {"LRI ON R L PDI", 1, 5, 1}, {"FSI R", 1, 2, 1},
		{"LRI RLI L PDI AL PDI R", 1, 7, 1}, {"LRI RLI L PDI ON PDI R", 1, 7, 1}, {"LRI RLI L PDI R PDI", 2, 6, 0}, {"LRI RLI L PDI R PDI", 3, 6, 1}, {"LRI RLI ON PDI R PDI L", 3, 7, 1},
		{"LRI LRI ON PDI PDI RLI L PDI R", 2, 9, 1}, {"LRI PDI RLI L PDI R", 1, 6, 1},
		// An isolate whose end stands at the other place, or behind it.
		{"LRI L PDI R", 0, 1, -1}, {"LRI L PDI R", 0, 2, -1}, {"LRI L PDI R", 0, 3, -1}, {"LRI L PDI R", 0, 4, 1}, {"ON LRI L PDI R", 1, 3, -1}, {"LRI LRI PDI L PDI R", 0, 4, -1},
		// An isolate without an end that begins from there on, or ahead.
		{"R LRI L", 1, 3, -1}, {"R LRI L", 2, 3, 0}, {"LRI LRI R", 1, 3, -1}, {"LRI LRI R", 2, 3, 1},
		// Each paragraph by itself.
		{"R B L", 1, 3, -1}, {"R B L", 2, 3, 0}, {"ON B L", 0, 3, -1}, {"LRI B L", 2, 3, 0}, {"LRI B PDI R", 1, 4, -1}, {"LRI B PDI R", 2, 4, 1}, {"B B R", 1, 3, -1}, {"B B R", 2, 3, 1}, {"L B ON B R", 2, 5, -1}, {"L B ON R B L", 2, 6, 1},
		{"LRI LRI B LRI L PDI R", 3, 7, 1}, {"R B LRI L B PDI R", 2, 7, -1},
		// What is no class.
		{"R 23 R", 1, 3, 0}, {"R ON -1", 1, 3, 0}, {"R 99", 1, 1, -1},
	} {
		checkFirst(t, read(x.l), x.from, x.to, x.want)
	}
}

// P5.1: First and Level of long lists.
func TestFirstOfLong(t *testing.T) {
	for _, n := range []int{126, 127, 128, 300, 4001, 1 << 16} {
		for _, x := range []struct{ ahead, behind string }{{"ON", ""}, {"EN", ""}, {"LRI L PDI", ""}, {"PDI", ""}, {"FSI", "PDI"}, {"RLI L LRE", "AL PDI"}} {
			l := slices.Concat(slices.Repeat(read(x.ahead), n), slices.Repeat(read(x.behind), n))
			for k, want := range []int{0, 1, 1, -1} {
				whole := append(l[:len(l):len(l)], k)
				if got := base.First(whole, 0, len(whole)); got != want {
					t.Errorf("First of %d times %s, %s, behind it %d: %d, not %d", n, x.ahead, x.behind, k, got, want)
				}
				if got := base.First(whole, 0, len(l)); got != -1 {
					t.Errorf("First of %d times %s, %s: %d", n, x.ahead, x.behind, got)
				}
				if got := base.Level(whole, api.DirAuto); got != max(want, 0) {
					t.Errorf("Level of %d times %s, %s, behind it %d: %d", n, x.ahead, x.behind, k, got)
				}
			}
		}
	}
}

// P5.1: Level hangs on the direction that is asked for, and else on the first paragraph alone.
func TestLevel(t *testing.T) {
	others := []int{api.DirAuto, -1, -2, 3, 4, 7, 17, 256 + 1, 256 + 2, 1<<16 + 2, 1<<32 + 1, 1<<32 + 2, -1<<32 + 1, -1<<32 + 2, 1<<62 + 2, math.MaxInt32, math.MinInt32, math.MaxInt, math.MinInt}
	for _, x := range []struct {
		l    string
		want int
	}{
		{"L", 0}, {"R", 1}, {"AL", 1}, {"ON", 0}, {"EN", 0}, {"AN", 0}, {"RLE", 0}, {"RLO", 0}, {"RLI", 0}, {"FSI", 0},
		{"L R", 0}, {"R L", 1}, {"AL L", 1}, {"ON EN R L", 1}, {"RLE L", 0}, {"LRE R", 1},
		{"RLI L PDI R", 1}, {"RLI L R", 0}, {"LRI L PDI AL", 1}, {"PDI AL", 1},
		// The first paragraph has no strong one, the second one has.
		{"B R", 0}, {"ON B R", 0}, {"EN WS B AL", 0}, {"ON B L", 0}, {"RLI R B R", 0}, {"RLI R PDI B AL", 0}, {"LRI B PDI R", 0}, {"B B R", 0},
		// Both have.
		{"L B R", 0}, {"R B L", 1}, {"ON AL B L", 1},
		{"99 R", 0}, {"R 99", 1}, {"-1", 0},
	} {
		l := read(x.l)
		for _, dir := range others {
			checkLevel(t, l, dir, x.want)
		}
		checkLevel(t, l, api.DirLeft, 0)
		checkLevel(t, l, api.DirRight, 1)
	}
}

// P5.1: Isolate at what begins an isolate.
func TestIsolate(t *testing.T) {
	for _, x := range []struct {
		l       string
		i, want int
	}{
		// LRI and RLI, whatever they have.
		{"LRI R PDI", 0, 0}, {"LRI AL", 0, 0}, {"LRI L PDI", 0, 0}, {"R LRI PDI R", 1, 0}, {"RLI L PDI", 0, 1}, {"RLI L", 0, 1}, {"RLI R PDI", 0, 1}, {"L RLI PDI L", 1, 1}, {"RLI B L", 0, 1}, {"RLI", 0, 1}, {"LRI", 0, 0},
		// FSI with an end: with no strong one, with a left one, with a right one first.
		{"FSI PDI", 0, 0}, {"FSI ON EN PDI", 0, 0}, {"FSI L PDI", 0, 0}, {"FSI L R PDI", 0, 0}, {"FSI R PDI", 0, 1}, {"FSI AL PDI", 0, 1}, {"FSI R L PDI", 0, 1}, {"FSI ON AL L PDI", 0, 1},
		{"FSI PDI R", 0, 0}, {"FSI ON PDI R", 0, 0}, {"FSI ON PDI AL L", 0, 0}, {"FSI RLE PDI R", 0, 0}, {"FSI EN PDI R", 0, 0},
		// FSI without one.
		{"FSI", 0, 0}, {"FSI ON", 0, 0}, {"FSI L R", 0, 0}, {"FSI R", 0, 1}, {"FSI AL L", 0, 1}, {"FSI WS R", 0, 1}, {"FSI B R", 0, 0}, {"FSI ON B R PDI", 0, 0}, {"FSI R B L", 0, 1}, {"FSI L B R", 0, 0},
		// What is ahead of it says nothing, nor what it is within.
		{"R FSI L PDI", 1, 0}, {"L FSI R PDI", 1, 1}, {"R FSI PDI", 1, 0}, {"R B FSI ON", 2, 0}, {"L B FSI R", 2, 1}, {"RLI FSI L PDI PDI", 1, 0}, {"LRI FSI R PDI PDI", 1, 1}, {"RLI FSI PDI R PDI", 1, 0}, {"LRI PDI PDI FSI R PDI", 3, 1},
		// What is within it is left out.
		{"FSI LRI L PDI R PDI", 0, 1}, {"FSI RLI R PDI L PDI", 0, 0}, {"FSI RLI R PDI PDI", 0, 0}, {"FSI LRI L PDI PDI R", 0, 0}, {"FSI RLI PDI PDI R", 0, 0}, {"FSI RLI R PDI R", 0, 1}, {"FSI RLI R PDI ON", 0, 0},
		{"FSI FSI R PDI L PDI", 0, 0}, {"FSI FSI R PDI L PDI", 1, 1}, {"FSI LRI RLI PDI PDI AL PDI", 0, 1}, {"FSI LRI RLI PDI PDI PDI AL", 0, 0},
		// What is within it has no end, so it has none.
		{"FSI LRI R", 0, 0}, {"FSI FSI R", 0, 0}, {"FSI FSI R", 1, 1}, {"FSI LRI L PDI R L", 0, 1}, {"FSI FSI PDI R", 0, 1}, {"FSI FSI PDI R", 1, 0}, {"FSI R LRI L", 0, 1},
		// One behind another.
		{"FSI R PDI FSI L PDI", 0, 1}, {"FSI R PDI FSI L PDI", 3, 0}, {"FSI PDI FSI R PDI", 0, 0}, {"FSI PDI FSI R PDI", 2, 1}, {"FSI B FSI R", 0, 0}, {"FSI B FSI R", 2, 1},
		// Embeddings' ends aren't isolates' ones.
		{"FSI PDF R PDI", 0, 1}, {"FSI LRE R PDF PDI", 0, 1}, {"FSI RLE PDF L PDI R", 0, 0},
		// What is no class counts as L.
		{"FSI 99 R PDI", 0, 0}, {"FSI R 99 PDI", 0, 1}, {"FSI -1 AL", 0, 0},
	} {
		checkIsolate(t, read(x.l), x.i, x.want)
	}
}

// P5.1: Isolate at all other classes, and at places that aren't there.
func TestIsolateNowhere(t *testing.T) {
	for k := range 23 {
		if opens(k) {
			continue
		}
		checkIsolate(t, []int{k}, 0, -1)
		checkIsolate(t, []int{api.FSI, k, api.R, api.PDI}, 1, -1)
		checkIsolate(t, []int{api.RLI, api.L, k}, 2, -1)
	}
	for _, k := range noClasses {
		checkIsolate(t, []int{k, api.R}, 0, -1)
	}
	l := read("RLI FSI R PDI LRI")
	for _, i := range []int{-1, -2, -5, 5, 6, 99, 1 << 32, 1<<32 + 1, -1 << 32, -1<<32 + 1, math.MaxInt32, math.MinInt32, math.MaxInt, math.MinInt, math.MinInt + 1} {
		checkIsolate(t, l, i, -1)
	}
	for i, want := range []int{1, 1, -1, -1, 0} {
		checkIsolate(t, l, i, want)
	}
}

// P5.1: Isolate of long ones.
func TestIsolateOfLong(t *testing.T) {
	for _, n := range []int{126, 127, 128, 300, 4001, 1 << 16} {
		for _, x := range []struct{ l, behind []int }{
			{slices.Repeat([]int{api.ON}, n), nil},
			{slices.Repeat([]int{api.LRI, api.L, api.PDI}, n), nil},
			{slices.Repeat([]int{api.RLI}, n), slices.Repeat([]int{api.PDI}, n)},
		} {
			within := slices.Concat([]int{api.FSI}, x.l, x.behind, []int{api.R, api.PDI, api.L})
			behind := slices.Concat([]int{api.FSI}, x.l, x.behind, []int{api.PDI, api.R})
			if got := base.Isolate(within, 0); got != 1 {
				t.Errorf("Isolate of one of %d: %d, not 1", len(within), got)
			}
			if got := base.Isolate(behind, 0); got != 0 {
				t.Errorf("Isolate of one of %d: %d, not 0", len(behind), got)
			}
		}
	}
}

// P5.1: numbers that are no class count as L, in all calls, though they be another class in fewer bits.
func TestNoClasses(t *testing.T) {
	for _, k := range noClasses {
		l := []int{api.ON, k, api.R}
		checkMatch(t, l, []int{-1, -1, -1})
		checkFirst(t, l, 0, 3, 0)
		checkFirst(t, l, 0, 1, -1)
		checkFirst(t, l, 1, 2, 0)
		checkFirst(t, l, 2, 3, 1)
		checkLevel(t, l, api.DirAuto, 0)
		checkIsolate(t, l, 1, -1)
		checkLevel(t, []int{k}, api.DirAuto, 0)
		checkLevel(t, []int{api.R, k}, api.DirAuto, 1)
		checkMatch(t, []int{k, api.PDI, api.LRI, k, api.PDI, api.RLI, k}, []int{-1, -1, 4, -1, 2, -1, -1})
		checkFirst(t, []int{api.LRI, k, api.PDI, api.R}, 0, 4, 1)
		checkFirst(t, []int{api.LRI, k, api.R}, 0, 3, -1)
		checkIsolate(t, []int{api.FSI, k, api.R, api.PDI}, 0, 0)
		checkIsolate(t, []int{api.FSI, api.AL, k, api.PDI}, 0, 1)
	}
}

// checkSaid: all calls at l are as the chapter's words say, at all places, those beside the list's, too.
func checkSaid(t *testing.T, l []int) {
	t.Helper()
	o := newOracle(l)
	checkMatch(t, l, o.match())
	for dir := -1; dir <= 3; dir++ {
		checkLevel(t, l, dir, o.level(dir))
	}
	for i := -2; i <= len(l)+2; i++ {
		checkIsolate(t, l, i, o.isolate(i))
		for j := -2; j <= len(l)+2; j++ {
			checkFirst(t, l, i, j, o.first(i, j))
		}
	}
}

// P5.1: all calls at each short list of what says anything.
func TestShortLists(t *testing.T) {
	for l := range everyList([]int{api.L, api.AL, api.ON, api.B, api.RLI, api.FSI, api.PDI}, 4) {
		checkSaid(t, l)
	}
	for l := range everyList([]int{api.R, api.B, api.LRI, api.FSI, api.PDI}, 5) {
		checkSaid(t, l)
	}
	if t.Failed() {
		t.FailNow()
	}
	for l := range everyList([]int{api.R, api.FSI, api.PDI}, 7) {
		checkSaid(t, l)
	}
}

// P5.1: all calls at each two, and three, of all classes and of what is none.
func TestPairsOfClasses(t *testing.T) {
	all := slices.Clone(noClasses[:3])
	for k := range 23 {
		all = append(all, k)
	}
	for l := range everyList(all, 2) {
		checkSaid(t, l)
		checkSaid(t, append([]int{api.FSI}, l...))
		checkSaid(t, append(slices.Clone(l), api.PDI, api.R))
	}
}

// P5.1: all calls at lists of mixed classes.
func TestMixedLists(t *testing.T) {
	for l := range mixedLists(read("ON ON ON LRI RLI FSI LRI RLI FSI PDI PDI PDI PDI PDI"), 1500, 24) {
		checkSaid(t, l)
	}
}

package explicit_test

import (
	"math"
	"slices"
	"testing"

	"ductus/api"
	"ductus/explicit"
)

// Bases that aren't 0: all count as 1; some would be 0 in 1, 8, 16 or 32 bits.
var otherBases = []int{1, 2, 3, -1, -2, 4, 62, 124, 125, 126, 127, 255, 256, 1 << 16, 1 << 32, 1<<32 + 1, -1 << 32, 1 << 62, math.MaxInt32, math.MinInt32, math.MaxInt, math.MinInt}

func checkOf(t *testing.T, l []int, base int, levels, told []int) {
	t.Helper()
	gotLevels, gotTold := explicit.Of(l, base)
	if !slices.Equal(gotLevels, levels) {
		t.Errorf("Of %s at %d: levels %d, not %d", show(l), base, gotLevels, levels)
	}
	if !slices.Equal(gotTold, told) {
		t.Errorf("Of %s at %d: classes %s, not %s", show(l), base, show(gotTold), show(told))
	}
}

func checkDepth(t *testing.T, l []int, base, want int) {
	t.Helper()
	if got := explicit.Depth(l, base); got != want {
		t.Errorf("Depth of %s at %d: %d, not %d", show(l), base, got, want)
	}
}

func checkNext(t *testing.T, level, dir, want int) {
	t.Helper()
	if got := explicit.Next(level, dir); got != want {
		t.Errorf("Next of %d at %d: %d, not %d", level, dir, got, want)
	}
}

// said: what is told of a list at a base: levels, classes (where they are empty, those of the list), and how many entries there are at most.
type said struct {
	l      string
	base   int
	levels string
	told   string
	depth  int
}

func (s said) check(t *testing.T) {
	t.Helper()
	l, told := read(s.l), read(s.told)
	if s.told == "" {
		told = l
	}
	checkOf(t, l, s.base, read(s.levels), told)
	checkDepth(t, l, s.base, s.depth)
}

// checkEnd: of a long list only what is told of its last places.
func (s said) checkEnd(t *testing.T) {
	t.Helper()
	l, levels, told := read(s.l), read(s.levels), read(s.told)
	gotLevels, gotTold := explicit.Of(l, s.base)
	if len(gotLevels) != len(l) || len(gotTold) != len(l) {
		t.Fatalf("Of %s at %d: %d levels, %d classes, not %d", s.l, s.base, len(gotLevels), len(gotTold), len(l))
	}
	if s.told == "" {
		told = l[len(l)-len(levels):]
	}
	if got := gotLevels[len(l)-len(levels):]; !slices.Equal(got, levels) {
		t.Errorf("Of %s at %d: levels end %d, not %d", s.l, s.base, got, levels)
	}
	if got := gotTold[len(l)-len(told):]; !slices.Equal(got, told) {
		t.Errorf("Of %s at %d: classes end %s, not %s", s.l, s.base, show(got), show(told))
	}
	if got := explicit.Depth(l, s.base); got != s.depth {
		t.Errorf("Depth of %s at %d: %d, not %d", s.l, s.base, got, s.depth)
	}
}

// P6.1: the chapter's example.
func TestExample(t *testing.T) {
	said{"RLE L PDF L", 0, "0 1 1 0", "", 2}.check(t)
}

// P6.1: all calls at an empty list.
func TestEmpty(t *testing.T) {
	for _, base := range append(otherBases, 0) {
		for _, l := range [][]int{nil, {}} {
			checkOf(t, l, base, nil, nil)
			checkDepth(t, l, base, 1)
		}
	}
}

// P6.1: all calls at lists of each class alone, of one, of several, and of many; told in full, this hangs on no oracle.
func TestEachAlone(t *testing.T) {
	for _, n := range []int{1, 2, 3, 61, 62, 63, 64, 65, 125, 126, 127, 128, 200, 300, 4001} {
		for k := range 23 {
			for base := range 2 {
				// Above the base there are so many odd levels, and so many even ones.
				first, room := base, 0
				switch k {
				case api.RLE, api.RLO, api.RLI:
					first, room = 1+2*base, 63-base
				case api.LRE, api.LRO, api.LRI, api.FSI:
					first, room = 2, 62
				}
				levels, told := slices.Repeat([]int{base}, n), slices.Repeat([]int{k}, n)
				for i := 1; i < n && room > 0; i++ {
					levels[i] = first + 2*(min(i, room)-1)
				}
				// None is overridden: what overrides keeps its own class.
				checkOf(t, told, base, levels, told)
				checkDepth(t, told, base, 1+min(n, room))
			}
		}
	}
}

// P6.1: an embedding of each direction, and its PDF.
func TestEmbeddings(t *testing.T) {
	for _, s := range []said{
		{"LRE R PDF R", 0, "0 2 2 0", "", 2},
		{"RLE L PDF L", 1, "1 3 3 1", "", 2},
		{"LRE R PDF R", 1, "1 2 2 1", "", 2},
		{"L RLE ON PDF EN", 0, "0 0 1 1 0", "", 2},
		// What has no PDF.
		{"RLE L", 0, "0 1", "", 2}, {"LRE R", 0, "0 2", "", 2}, {"RLE L", 1, "1 3", "", 2}, {"LRE R", 1, "1 2", "", 2}, {"RLE", 0, "0", "", 2}, {"R LRE", 1, "1 1", "", 2},
		// One within another.
		{"RLE LRE R PDF R PDF R", 0, "0 1 2 2 1 1 0", "", 3},
		{"LRE RLE L PDF L PDF L", 0, "0 2 3 3 2 2 0", "", 3},
		{"RLE LRE R PDF R PDF R", 1, "1 3 4 4 3 3 1", "", 3},
		{"RLE RLE RLE ON PDF ON", 0, "0 1 3 5 5 3", "", 4},
		{"LRE LRE LRE ON PDF ON", 0, "0 2 4 6 6 4", "", 4},
		{"LRE LRE LRE ON PDF ON", 1, "1 2 4 6 6 4", "", 4},
		// One behind another.
		{"RLE L PDF LRE R PDF ON", 0, "0 1 1 0 2 2 0", "", 2},
		{"LRE PDF LRE PDF LRE PDF RLE L", 1, "1 2 1 2 1 2 1 3", "", 2},
		// All classes within.
		{"RLE L R AL EN ES ET AN CS NSM S WS ON BN PDI 99 PDF L", 0, "0 1 1 1 1 1 1 1 1 1 1 1 1 1 1 1 1 0", "RLE L R AL EN ES ET AN CS NSM S WS ON BN PDI L PDF L", 2},
		{"LRE L R AL EN ES ET AN CS NSM S WS ON BN PDI 99 PDF L", 1, "1 2 2 2 2 2 2 2 2 2 2 2 2 2 2 2 2 1", "LRE L R AL EN ES ET AN CS NSM S WS ON BN PDI L PDF L", 2},
	} {
		s.check(t)
	}
}

// P6.1: an override of each direction, and its PDF; what stands in it gets its class.
func TestOverrides(t *testing.T) {
	for _, s := range []said{
		{"RLO L PDF L", 0, "0 1 1 0", "RLO R PDF L", 2},
		{"LRO R PDF R", 0, "0 2 2 0", "LRO L PDF R", 2},
		{"RLO L PDF L", 1, "1 3 3 1", "RLO R PDF L", 2},
		{"LRO R PDF R", 1, "1 2 2 1", "LRO L PDF R", 2},
		{"RLO L", 0, "0 1", "RLO R", 2}, {"LRO AL", 1, "1 2", "LRO L", 2}, {"RLO", 0, "0", "", 2}, {"LRO", 1, "1", "", 2},
		// All classes within: what is left out keeps its own.
		{"RLO L R AL EN ES ET AN CS NSM S WS ON BN PDI 99 PDF L", 0, "0 1 1 1 1 1 1 1 1 1 1 1 1 1 1 1 1 0", "RLO R R R R R R R R R R R R BN R R PDF L", 2},
		{"LRO L R AL EN ES ET AN CS NSM S WS ON BN PDI 99 PDF R", 1, "1 2 2 2 2 2 2 2 2 2 2 2 2 2 2 2 2 1", "LRO L L L L L L L L L L L L BN L L PDF R", 2},
		// One within another: the last one alone says, embeddings have none.
		{"RLO LRO R PDF L PDF L", 0, "0 1 2 2 1 1 0", "RLO LRO L PDF R PDF L", 3},
		{"LRO RLO L PDF R PDF R", 0, "0 2 3 3 2 2 0", "LRO RLO R PDF L PDF R", 3},
		{"RLO L RLE L PDF L PDF L", 0, "0 1 1 3 3 1 1 0", "RLO R RLE L PDF R PDF L", 3},
		{"LRO R LRE R PDF R PDF R", 0, "0 2 2 4 4 2 2 0", "LRO L LRE R PDF L PDF R", 3},
		{"RLE RLO ON PDF ON PDF", 0, "0 1 3 3 1 1", "RLE RLO R PDF ON PDF", 3},
		{"LRE LRO ON PDF ON PDF", 1, "1 2 4 4 2 2", "LRE LRO L PDF ON PDF", 3},
		// An isolate's beginning and its end are overridden, what is in it isn't.
		{"RLO LRI ON PDI L PDF L", 0, "0 1 2 1 1 1 0", "RLO R ON R R PDF L", 3},
		{"RLO RLI L PDI L", 0, "0 1 3 1 1", "RLO R L R R", 3},
		{"RLO FSI L PDI L", 0, "0 1 2 1 1", "RLO R L R R", 3},
		{"LRO RLI ON PDI R PDF R", 0, "0 2 3 2 2 2 0", "LRO L ON L L PDF R", 3},
		{"LRO LRI R PDI R", 0, "0 2 4 2 2", "LRO L R L L", 3},
		{"LRO FSI AL PDI R", 0, "0 2 3 2 2", "LRO L AL L L", 3},
		{"RLO LRI RLI ON PDI PDI", 0, "0 1 2 3 2 1", "RLO R RLI ON PDI R", 4},
		{"RLO RLE LRI PDI", 0, "0 1 3 3", "RLO RLE LRI PDI", 4},
		{"RLO LRI LRE R PDI L", 0, "0 1 2 4 1 1", "RLO R LRE R R R", 4},
		// What has no end.
		{"LRO RLI R", 0, "0 2 3", "LRO L R", 3}, {"RLO LRI", 0, "0 1", "RLO R", 3},
		// An override within an isolate goes with it.
		{"RLI RLO L PDI L", 0, "0 1 3 0 0", "RLI RLO R PDI L", 3},
		{"LRI LRO R PDF R PDI R", 1, "1 2 4 4 2 1 1", "LRI LRO L PDF R PDI R", 3},
		{"RLO RLI LRO R PDI L PDF L", 0, "0 1 3 4 1 1 1 0", "RLO R LRO L R R PDF L", 4},
		// The direction of FSI is that of what stands there, overridden or not.
		{"RLO FSI ON L PDI", 0, "0 1 2 2 1", "RLO R ON L R", 3}, {"FSI RLO L PDI", 0, "0 2 3 0", "FSI RLO R PDI", 3}, {"FSI LRO R PDI", 0, "0 1 2 0", "FSI LRO L PDI", 3},
	} {
		s.check(t)
	}
}

// P6.1: PDFs that end nothing, or what is no isolate's.
func TestPDF(t *testing.T) {
	for _, s := range []said{
		{"PDF R", 0, "0 0", "", 1}, {"PDF PDF L", 1, "1 1 1", "", 1},
		{"RLE PDF PDF L", 0, "0 1 0 0", "", 2}, {"PDF RLE L PDF PDF L", 0, "0 0 1 1 0 0", "", 2}, {"LRO PDF PDF PDF RLO L", 0, "0 2 0 0 0 1", "LRO PDF PDF PDF RLO R", 2},
		// It would end an isolate.
		{"RLI PDF L PDI L", 0, "0 1 1 0 0", "", 2}, {"LRI PDF PDF R", 0, "0 2 2 2", "", 2}, {"FSI PDF R PDI R", 1, "1 3 3 1 1", "", 2},
		// It would end what is ahead of the isolate.
		{"LRE RLI PDF L PDI L PDF L", 0, "0 2 3 3 2 2 2 0", "", 3}, {"RLO LRI PDF R PDI R PDF L", 0, "0 1 2 2 1 1 1 0", "RLO R PDF R R R PDF L", 3},
		{"RLE LRE FSI PDF PDF PDF AL PDI R PDF R", 0, "0 1 2 3 3 3 3 2 2 2 1", "", 4},
		// It ends what is in the isolate, one more ends nothing.
		{"RLI RLE L PDF L PDF L PDI L", 0, "0 1 3 3 1 1 1 0 0", "", 3}, {"LRI RLO LRE PDF PDF PDF ON", 0, "0 2 3 4 3 2 2", "", 4},
		// Behind an isolate it ends what is ahead of it.
		{"RLE LRI R PDI R PDF R", 0, "0 1 2 1 1 1 0", "", 3}, {"LRO RLI PDI PDF R", 1, "1 2 2 2 1", "LRO L L PDF R", 3},
	} {
		s.check(t)
	}
}

// P6.1: an isolate of each direction, its PDI, and PDIs that end nothing.
func TestIsolates(t *testing.T) {
	for _, s := range []said{
		{"RLI L PDI L", 0, "0 1 0 0", "", 2}, {"LRI R PDI R", 0, "0 2 0 0", "", 2}, {"RLI L PDI L", 1, "1 3 1 1", "", 2}, {"LRI R PDI R", 1, "1 2 1 1", "", 2},
		{"RLI L R AL EN ES ET AN CS NSM S WS ON BN PDF 99 PDI L", 0, "0 1 1 1 1 1 1 1 1 1 1 1 1 1 1 1 0 0", "RLI L R AL EN ES ET AN CS NSM S WS ON BN PDF L PDI L", 2},
		// What has no PDI.
		{"RLI L", 0, "0 1", "", 2}, {"LRI R", 0, "0 2", "", 2}, {"RLI", 1, "1", "", 2}, {"L LRI", 0, "0 0", "", 2},
		// One within another.
		{"LRI RLI L PDI R PDI R", 0, "0 2 3 2 2 0 0", "", 3}, {"RLI LRI R PDI R PDI R", 0, "0 1 2 1 1 0 0", "", 3}, {"RLI RLI RLI L PDI L PDI L", 1, "1 3 5 7 5 5 3 3", "", 4},
		// One behind another.
		{"RLI PDI LRI R PDI RLI L", 0, "0 0 0 2 0 0 1", "", 2},
		// A PDI that ends nothing, and no embedding.
		{"PDI R", 0, "0 0", "", 1}, {"PDI PDI L", 1, "1 1 1", "", 1}, {"RLE PDI L PDF L", 0, "0 1 1 1 0", "", 2}, {"LRE RLE PDI PDI PDF PDF R", 0, "0 2 3 3 3 2 0", "", 3},
		{"RLI PDI PDI L", 0, "0 0 0 0", "", 2}, {"PDI RLI L PDI PDI", 0, "0 0 1 0 0", "", 2}, {"RLE LRI PDI PDI L", 0, "0 1 1 1 1", "", 3}, {"RLI PDI LRE PDI R PDF R", 0, "0 0 0 2 2 2 0", "", 2},
		// One that ends embeddings that stand open within.
		{"RLI RLE LRE PDI L", 0, "0 1 3 0 0", "", 4}, {"RLE RLI LRE RLE PDI L PDF L", 0, "0 1 3 4 1 1 1 0", "", 5}, {"LRI RLO LRO RLE PDI R PDI RLE L", 0, "0 2 3 4 0 0 0 0 1", "", 5},
		{"LRI RLE RLI LRE PDI L PDI L", 0, "0 2 3 5 3 3 0 0", "", 5}, {"RLI RLI RLE PDI LRE PDI ON", 0, "0 1 3 1 1 0 0", "", 4}, {"LRI LRE PDI PDF R", 0, "0 2 0 0 0", "", 3},
	} {
		s.check(t)
	}
}

// P6.1: FSI goes the way of its first strong one.
func TestFSI(t *testing.T) {
	for _, s := range []said{
		// A left one.
		{"FSI L PDI L", 0, "0 2 0 0", "", 2}, {"FSI L PDI L", 1, "1 2 1 1", "", 2}, {"FSI L R PDI", 0, "0 2 2 0", "", 2}, {"FSI ON EN L AL PDI R", 0, "0 2 2 2 2 0 0", "", 2}, {"FSI L R", 0, "0 2 2", "", 2},
		{"FSI 99 R PDI", 0, "0 2 2 0", "FSI L R PDI", 2},
		// A right one.
		{"FSI R PDI R", 0, "0 1 0 0", "", 2}, {"FSI R PDI R", 1, "1 3 1 1", "", 2}, {"FSI AL L PDI", 0, "0 1 1 0", "", 2}, {"FSI WS AN R L PDI L", 0, "0 1 1 1 1 0 0", "", 2}, {"FSI AL L", 0, "0 1 1", "", 2},
		// None.
		{"FSI PDI", 0, "0 0", "", 2}, {"FSI PDI", 1, "1 1", "", 2}, {"FSI ON PDI R", 0, "0 2 0 0", "", 2}, {"FSI EN AN PDI AL", 1, "1 2 2 1 1", "", 2}, {"FSI ON", 0, "0 2", "", 2}, {"FSI", 0, "0", "", 2}, {"FSI ON B R", 0, "0 2 0 0", "", 2},
		// What isolates within it have isn't looked at, what is ahead of it, and behind it, neither.
		{"FSI RLI R PDI L PDI", 0, "0 2 3 2 2 0", "", 3}, {"FSI LRI L PDI AL PDI", 0, "0 1 2 1 1 0", "", 3}, {"FSI LRI R", 0, "0 2 4", "", 3}, {"FSI RLI R PDI PDI R", 0, "0 2 3 2 0 0", "", 3},
		{"FSI FSI R PDI L PDI", 0, "0 2 3 2 2 0", "", 3}, {"R FSI L PDI R", 1, "1 1 2 1 1", "", 2}, {"L FSI R PDI L", 0, "0 0 1 0 0", "", 2}, {"RLE FSI L PDI PDF", 0, "0 1 2 1 1", "", 3},
		{"FSI RLE L PDF PDI", 0, "0 2 3 3 0", "", 3}, {"FSI LRE R PDF PDI", 0, "0 1 2 2 0", "", 3},
		// One behind another.
		{"FSI AL PDI FSI L PDI FSI PDI", 0, "0 1 0 0 2 0 0 0", "", 2},
	} {
		s.check(t)
	}
}

// P6.1: behind a B all is as at the beginning; what is left out keeps its class and its level is the one ahead.
func TestBreaksAndBlanks(t *testing.T) {
	for _, s := range []said{
		{"B", 0, "0", "", 1}, {"B", 1, "1", "", 1}, {"B B R", 1, "1 1 1", "", 1},
		{"RLE B L", 0, "0 0 0", "", 2}, {"LRE B R", 1, "1 1 1", "", 2}, {"RLO L B L", 0, "0 1 0 0", "RLO R B L", 2}, {"LRO B AL", 1, "1 1 1", "", 2},
		{"RLE L B PDF L RLE L B L", 0, "0 1 0 0 0 0 1 0 0", "", 2},
		{"RLI L B PDI L", 0, "0 1 0 0 0", "", 2}, {"RLE LRI B R PDF PDI R", 1, "1 3 1 1 1 1 1", "", 3}, {"FSI R B L", 0, "0 1 0 0", "", 2},
		{"RLO RLI LRO B L PDI ON", 0, "0 1 3 0 0 0 0", "RLO R LRO B L PDI ON", 4},
		// No isolate is counted any more: the PDI ends nothing.
		{"RLI B RLE PDI L", 0, "0 0 0 1 1", "", 2}, {"RLI*3 B RLE LRE PDI PDI PDI PDI R", 0, "0 1 3 0 0 1 2 2 2 2 2", "", 4},
		// The greatest depth is that of any paragraph.
		{"RLE LRE RLE B RLE", 0, "0 1 2 0 0", "", 4}, {"RLE B RLE LRE RLE", 0, "0 0 0 1 2", "", 4},
		{"BN", 0, "0", "", 1}, {"BN BN L", 1, "1 1 1", "", 1}, {"RLE BN PDF BN", 0, "0 1 1 0", "", 2}, {"RLO BN L BN PDF BN L", 0, "0 1 1 1 1 0 0", "RLO BN R BN PDF BN L", 2}, {"RLI BN PDI BN", 0, "0 1 0 0", "", 2},
		{"LRO RLO LRE RLE PDF BN", 0, "0 2 3 4 5 4", "", 5}, {"RLO PDF LRO PDF RLO", 0, "0 1 0 2 0", "", 2},
	} {
		s.check(t)
	}
}

// P6.1: levels up to MaxLevel, and embeddings that overflow.
func TestOverflowingEmbeddings(t *testing.T) {
	for _, s := range []said{
		{"RLE*62 L", 0, "123", "", 63}, {"RLE*63 L", 0, "125", "", 64}, {"RLE*64 L", 0, "125 125", "", 64}, {"RLE*62 L", 1, "125", "", 63}, {"RLE*63 L", 1, "125 125", "", 63},
		{"LRE*62 R", 0, "124", "", 63}, {"LRE*63 R", 0, "124 124", "", 63}, {"LRE*62 R", 1, "124", "", 63}, {"LRE*62 RLE L", 0, "124 125", "", 64}, {"RLE*62 LRE R", 0, "123 124", "", 64}, {"RLE*62 LRE RLE L", 0, "123 124 125", "", 65},
		// PDFs behind them end first what overflows.
		{"RLE*64 L PDF L PDF L PDF L", 0, "125 125 125 125 123 123 121", "", 64}, {"RLE*63 L PDF L PDF L", 1, "125 125 125 125 123", "", 63}, {"RLE*73 PDF*10 L PDF L", 0, "125 125 125 123", "", 64},
		{"LRE*63 R PDF R PDF R", 0, "124 124 124 124 122", "", 63}, {"RLE*73 PDF*73 L", 0, "1 0", "", 64}, {"RLE*73 PDF*72 L", 0, "3 1", "", 64}, {"RLE*64 PDF*70 RLE L", 0, "0 0 1", "", 64},
		// What would fit behind them overflows, too, till they are ended.
		{"LRE*62 LRE RLE R PDF R PDF R PDF R", 0, "124 124 124 124 124 124 124 124 122", "", 63}, {"LRE*62 LRE PDF RLE L PDF R", 0, "124 124 124 125 125 124", "", 64},
		{"LRE*62 LRO RLO R PDF PDF R PDF R", 0, "124 124 124 124 124 124 124 122", "", 63}, {"LRE*62 LRE*3 PDF*2 RLE L", 0, "124 124", "", 63},
		{"LRE*62 LRE RLI R PDI R", 0, "124 124 124 124 124", "", 63}, {"LRE*62 LRE FSI R PDI R", 0, "124 124 124 124 124", "", 63}, {"LRE*62 LRE PDF FSI R PDI R", 0, "124 124 124 125 124 124", "", 64},
		// An override that overflows overrides nothing, one that doesn't goes on.
		{"RLE*63 RLO L", 0, "125 125", "RLO L", 64}, {"RLE*63 LRO R PDF R", 0, "125 125 125 125", "LRO R PDF R", 64}, {"RLO*63 LRO L PDF L PDF L", 0, "125 125 125 125 125 123", "LRO R PDF R PDF R", 64},
		{"RLO*62 LRO LRO R", 0, "123 124 124", "LRO LRO L", 64}, {"RLO*62 LRO RLE L", 0, "123 124 125", "LRO RLE L", 65}, {"RLE*62 RLO LRE L PDF L PDF L", 0, "123 125 125 125 125 125 123", "RLO LRE R PDF R PDF L", 64},
		// A PDI that ends nothing takes none of them away.
		{"RLE*63 RLE PDI PDF L PDF L", 0, "125 125 125 125 125 123", "", 64},
		// A PDI that ends an isolate takes all of them away that are in it.
		{"RLI RLE*62 RLE*5 PDI RLE L PDF L", 0, "0 0 1 1 0", "", 64}, {"RLE*62 RLI RLE RLE PDI PDF L", 0, "123 125 125 123 123 121", "", 64}, {"LRI LRE*61 LRE PDI RLE L", 0, "124 0 0 1", "", 63},
		// B takes them away.
		{"RLE*70 B PDF L RLE L", 0, "0 0 0 0 1", "", 64}, {"LRE*70 B RLI L", 1, "1 1 3", "", 63},
	} {
		s.checkEnd(t)
	}
}

// P6.1: isolates that overflow.
func TestOverflowingIsolates(t *testing.T) {
	for _, s := range []said{
		{"RLI*62 L", 0, "123", "", 63}, {"RLI*63 L", 0, "125", "", 64}, {"RLI*64 L PDI L PDI L", 0, "125 125 125 125 123 123", "", 64}, {"RLI*63 L PDI L PDI L", 1, "125 125 125 123 123", "", 63},
		{"LRI*62 R", 0, "124", "", 63}, {"LRI*62 LRI R PDI R PDI R", 0, "124 124 124 124 122 122", "", 63}, {"LRI*62 RLI L PDI R", 0, "124 125 124 124", "", 64},
		{"RLI*73 PDI*10 L PDI L", 0, "125 125 123 123", "", 64}, {"RLI*73 PDI*73 L", 0, "0 0", "", 64}, {"RLI*73 PDI*72 L", 0, "1 1", "", 64}, {"RLI*64 PDI*70 RLI L", 0, "0 0 1", "", 64},
		// What would fit within them overflows, too, till they are ended.
		{"LRI*62 LRI RLI R PDI R PDI R", 0, "124 124 124 124 124 124 124", "", 63}, {"LRI*62 LRI PDI RLI L", 0, "124 124 124 125", "", 64}, {"LRI*62 LRI RLE L PDF L PDI L", 0, "124 124 124 124 124 124 124", "", 63},
		// FSI: its direction says whether it fits.
		{"LRI*62 FSI R PDI L", 0, "124 125 124 124", "", 64}, {"LRI*62 FSI L PDI R", 0, "124 124 124 124", "", 63}, {"LRI*62 FSI ON PDI R", 0, "124 124 124 124", "", 63}, {"RLI*63 FSI R PDI L", 0, "125 125 125 125", "", 64}, {"RLI*62 FSI L PDI R", 0, "123 124 123 123", "", 64},
		{"LRI*62 LRI FSI R PDI PDI FSI R", 0, "124 124 124 124 124 124 125", "", 64}, {"LRI*62 FSI*2 R PDI*2 R", 0, "124 124 124 124 124 124", "", 63},
		// Embeddings within them aren't counted, and PDFs within them end nothing.
		{"LRI*62 LRI RLE PDI RLE L", 0, "124 124 124 124 125", "", 64}, {"LRI*62 LRI LRE*5 PDI RLE L PDF R", 0, "124 124 125 125 124", "", 64}, {"LRE*62 LRI PDF R PDI R PDF R", 0, "124 124 124 124 124 124 122", "", 63},
		{"RLE*63 RLI PDF*9 PDI L PDF L", 0, "125 125 125 123", "", 64}, {"LRI*62 LRI PDF*9 PDI L PDI L", 0, "124 124 122 122", "", 63},
		// Behind embeddings that overflow: these stay till their PDFs behind the PDI.
		{"RLE*63 RLE RLI PDF PDI L PDF L PDF L", 0, "125 125 125 125 125 125 125 125 123", "", 64}, {"LRE*62 LRE RLI PDI RLE L PDF PDF R PDF R", 0, "124 124 124 124 124 124 124 124 124 122", "", 63},
		{"RLI RLE*62 RLE RLI PDI PDF L PDF L PDI L", 0, "125 125 125 125 125 125 123 0 0", "", 64}, {"RLI RLE*62 RLE*2 RLI*2 PDI*2 PDI L RLE L", 0, "0 0 0 1", "", 64},
		// They are overridden as others are, and so is what is in them.
		{"RLI*62 RLO LRI LRI L PDI PDI L", 0, "123 125 125 125 125 125 125", "RLO R R R R R R", 64}, {"LRE*61 LRO LRI R PDI FSI R PDI R", 0, "122 124 124 124 124 125 124 124", "LRO L L L L R L L", 64},
		// B takes them away.
		{"RLI*70 B PDI RLI L", 0, "0 0 0 1", "", 64}, {"RLE*63 RLE RLI B RLI RLE L", 0, "0 0 1 3", "", 64}, {"LRI*70 B RLE PDF LRE PDI R", 1, "1 1 3 1 2 2", "", 63},
	} {
		s.checkEnd(t)
	}
}

// P6.1: the deepest stacks have one entry for each level.
func TestDeepest(t *testing.T) {
	both := slices.Repeat(read("RLE LRE"), 62)
	want := append(slices.Collect(upTo(124)), 125)
	checkOf(t, append(both, api.RLE, api.L), 0, append([]int{0}, want[1:]...), append(both, api.RLE, api.L))
	for _, s := range []struct {
		l           string
		often, base int
		depth       int
	}{
		{"RLE LRE", 100, 0, 126}, {"RLI LRI", 100, 0, 126}, {"RLO LRI", 100, 0, 126}, {"RLI LRO", 4001, 0, 126}, {"LRE RLE", 100, 1, 125}, {"LRI RLI", 100, 1, 125},
		{"RLE LRE", 62, 0, 125}, {"RLE LRE", 10, 0, 21}, {"LRE RLE", 10, 0, 21}, {"RLE RLE LRE", 10, 0, 31}, {"LRE", 100, 0, 63}, {"RLE", 100, 0, 64}, {"RLE PDF", 4001, 0, 2}, {"LRI PDI", 4001, 1, 2}, {"RLE B", 4001, 0, 2}, {"RLE PDF PDF", 4001, 1, 2},
	} {
		checkDepth(t, slices.Repeat(read(s.l), s.often), s.base, s.depth)
	}
}

// upTo: all from 0 to n.
func upTo(n int) func(yield func(int) bool) {
	return func(yield func(int) bool) {
		for i := range n + 1 {
			if !yield(i) {
				return
			}
		}
	}
}

// P6.1: a base other than 0 counts as 1, in both calls.
func TestOtherBases(t *testing.T) {
	for _, base := range otherBases {
		for _, s := range []said{
			{"L R", base, "1 1", "", 1},
			{"RLE L PDF L", base, "1 3 3 1", "", 2}, {"LRE R PDF R", base, "1 2 2 1", "", 2}, {"RLI LRO R PDI L", base, "1 3 4 1 1", "RLI LRO L PDI L", 3},
			{"FSI B PDI R", base, "1 1 1 1", "", 2}, {"RLE B L", base, "1 1 1", "", 2}, {"LRI ON B ON", base, "1 2 1 1", "", 2}, {"B", base, "1", "", 1},
		} {
			s.check(t)
		}
		said{"RLE*63 L", base, "125", "", 63}.checkEnd(t)
	}
}

// P6.1: numbers that are no class count as L, and are told as L, though they be another class in fewer bits.
func TestNoClasses(t *testing.T) {
	for _, k := range noClasses {
		for base := range 2 {
			checkOf(t, []int{k}, base, []int{base}, []int{api.L})
			checkOf(t, []int{k, api.R, k}, base, []int{base, base, base}, []int{api.L, api.R, api.L})
			checkDepth(t, []int{k, k, api.R}, base, 1)
		}
		for _, x := range []struct{ l, levels, told []int }{
			{[]int{api.RLO, k, api.PDF, k}, []int{0, 1, 1, 0}, []int{api.RLO, api.R, api.PDF, api.L}},
			{[]int{api.LRO, k, api.ON}, []int{0, 2, 2}, []int{api.LRO, api.L, api.L}},
			{[]int{api.RLE, k, api.L, api.PDF}, []int{0, 1, 1, 1}, []int{api.RLE, api.L, api.L, api.PDF}},
			{[]int{api.RLI, k, api.PDI, k}, []int{0, 1, 0, 0}, []int{api.RLI, api.L, api.PDI, api.L}},
			{[]int{api.FSI, k, api.R, api.PDI}, []int{0, 2, 2, 0}, []int{api.FSI, api.L, api.R, api.PDI}},
			{[]int{api.FSI, api.R, k, api.PDI}, []int{0, 1, 1, 0}, []int{api.FSI, api.R, api.L, api.PDI}},
		} {
			checkOf(t, x.l, 0, x.levels, x.told)
			checkDepth(t, x.l, 0, 2)
		}
	}
}

// P6.1: the next level of each level in both directions: by how many it is above, told by no rule of oddness.
func TestNext(t *testing.T) {
	for _, x := range [][3]int{
		{0, 1, 1}, {0, 0, 2}, {1, 1, 3}, {1, 0, 2}, {2, 1, 3}, {2, 0, 4}, {3, 1, 5}, {3, 0, 4}, {60, 1, 61}, {60, 0, 62}, {61, 1, 63}, {61, 0, 62},
		{122, 1, 123}, {122, 0, 124}, {123, 1, 125}, {123, 0, 124}, {124, 1, 125}, {124, 0, 126}, {125, 1, 127}, {125, 0, 126},
	} {
		checkNext(t, x[0], x[1], x[2])
	}
	odd, even := 1, 2
	for level := range 126 {
		if level == odd {
			odd += 2
		}
		if level == even {
			even += 2
		}
		checkNext(t, level, 1, odd)
		// All but 1 is L's.
		for _, dir := range []int{0, 2, 3, -1, -2, 7, 16, 255, 256, 257, 1 << 16, 1<<16 + 1, 1 << 32, 1<<32 + 1, -1<<32 + 1, 1<<62 + 1, math.MaxInt32, math.MinInt32, math.MaxInt, math.MinInt} {
			checkNext(t, level, dir, even)
		}
	}
}

// P6.1: levels below 0, and above 125, have no next one.
func TestNextOfNone(t *testing.T) {
	for _, level := range []int{-1, -2, -3, -124, -125, -126, -127, -128, -256, -255, 126, 127, 128, 129, 130, 250, 255, 256, 257, 380, 1 << 16, 1<<16 + 1, 1 << 32, 1<<32 + 1, -1 << 32, -1<<32 + 1, 1 << 62, math.MaxInt32, math.MinInt32, math.MaxInt, math.MaxInt - 1, math.MinInt, math.MinInt + 1} {
		for _, dir := range []int{0, 1, 2, -1, math.MaxInt, math.MinInt} {
			checkNext(t, level, dir, -1)
		}
	}
}

// checkSaid: all calls at l are as the chapter's words say.
func checkSaid(t *testing.T, l []int, base int) {
	t.Helper()
	levels, told, depth := oracle(l, base)
	checkOf(t, l, base, levels, told)
	checkDepth(t, l, base, depth)
}

// P6.1: all calls at each two of all classes and of what is none, also behind each class.
func TestPairsOfClasses(t *testing.T) {
	for l := range everyList(append(slices.Clone(noClasses[:3]), classes...), 2) {
		for _, base := range []int{0, 1, 2, -1} {
			checkSaid(t, l, base)
		}
		for _, k := range classes {
			checkSaid(t, append([]int{k}, l...), 0)
		}
	}
}

// P6.1: all calls at each short list of what says anything.
func TestShortLists(t *testing.T) {
	for _, x := range []struct {
		of   string
		most int
	}{
		{"L RLE LRO PDF RLI FSI PDI B", 4}, {"AL RLO LRE PDF LRI FSI PDI BN", 4}, {"RLO PDF LRI PDI L", 6}, {"LRE RLI PDF PDI R", 6}, {"RLE RLI PDI", 8},
	} {
		for l := range everyList(read(x.of), x.most) {
			checkSaid(t, l, 0)
			checkSaid(t, l, 1)
		}
		if t.Failed() {
			t.FailNow()
		}
	}
}

// P6.1: each short list behind beginnings that leave no room, or room for few.
func TestShortListsBehindMany(t *testing.T) {
	for _, ahead := range []string{"RLE*61", "RLI*61", "LRE*61", "LRI*61", "RLE*60 LRO", "LRI RLO*61", "RLI RLE*60 LRI", "LRO*61 LRI", "RLE*63", "RLI*64", "RLE*30 RLI LRE*31", "LRI*62 RLE"} {
		for l := range everyList(read("RLE LRO PDF LRI FSI PDI R"), 3) {
			checkSaid(t, slices.Concat(read(ahead), l, read("ON PDF ON PDI ON")), 1)
		}
		for l := range everyList(read("LRE RLE PDF RLI PDI"), 4) {
			checkSaid(t, slices.Concat(read(ahead), l, read("L PDF*2 L PDI*2 L B L")), 0)
		}
		if t.Failed() {
			t.FailNow()
		}
	}
}

// P6.1: all calls at lists of mixed classes, also at such with many beginnings.
func TestMixedLists(t *testing.T) {
	for _, x := range mixtures {
		for l := range mixedLists(slices.Repeat(read(x.common), x.often), x.many, x.most) {
			checkSaid(t, l, 0)
			checkSaid(t, l, 1)
		}
		if t.Failed() {
			t.FailNow()
		}
	}
}

// mixtures: what mixed lists are made of: classes that are met more often, by how much, how many lists there are, and how long they are at most.
var mixtures = []struct {
	common            string
	often, many, most int
}{
	{"L", 0, 2000, 40},
	{"RLE LRE RLO LRO PDF", 5, 1000, 60},
	{"RLI LRI FSI PDI", 5, 1000, 60},
	{"RLE LRE RLO LRO PDF LRI RLI FSI PDI", 20, 300, 300},
	{"RLE LRE RLO LRO LRI RLI FSI", 20, 300, 400},
	{"LRI RLI FSI PDI LRE RLE PDF R", 100, 200, 700},
	{"LRI RLI FSI FSI PDI RLE RLO LRE LRO", 100, 200, 700},
}

// P6.1: all calls at long lists, told in full.
func TestLongLists(t *testing.T) {
	for _, n := range []int{126, 127, 128, 300, 4001, 1 << 16} {
		for _, x := range []struct {
			l, levels, told string
			depth           int
		}{
			{"L R ON", "0 0 0", "", 1}, {"RLE L PDF L", "0 1 1 0", "", 2}, {"LRO R PDF B", "0 2 2 0", "LRO L PDF B", 2}, {"PDF PDI", "0 0", "", 1},
			{"FSI R LRE PDI", "0 1 1 0", "", 3}, {"FSI RLO L PDI PDI BN", "0 2 3 0 0 0", "FSI RLO R PDI PDI BN", 3}, {"RLE LRI RLO B", "0 1 2 0", "", 4}, {"FSI B 99", "0 0 0", "FSI B L", 2},
		} {
			l, levels, told := read(x.l), read(x.levels), read(x.told)
			if x.told == "" {
				told = l
			}
			whole := slices.Repeat(l, n)
			gotLevels, gotTold := explicit.Of(whole, 0)
			if !slices.Equal(gotLevels, slices.Repeat(levels, n)) || !slices.Equal(gotTold, slices.Repeat(told, n)) {
				t.Errorf("Of %d times %s: not as of each", n, x.l)
			}
			if got := explicit.Depth(whole, 0); got != x.depth {
				t.Errorf("Depth of %d times %s: %d, not %d", n, x.l, got, x.depth)
			}
		}
	}
}

// P6.1: isolates and embeddings, very many within one another, come to an end in due time, and end as they began.
func TestManyWithinOneAnother(t *testing.T) {
	for _, n := range []int{64, 300, 4001, 1 << 16} {
		for _, x := range []struct {
			begins, ends string
			first, step  int
			most         int
		}{
			{"RLE", "PDF", 1, 2, 125}, {"LRE", "PDF", 2, 2, 124}, {"RLI", "PDI", 1, 2, 125}, {"LRI", "PDI", 2, 2, 124}, {"FSI", "PDI", 2, 2, 124},
		} {
			l := slices.Concat(slices.Repeat(read(x.begins), n), []int{api.ON}, slices.Repeat(read(x.ends), n), []int{api.ON})
			levels, told := explicit.Of(l, 0)
			if !slices.Equal(told, l) {
				t.Errorf("%d of %s within one another: other classes", n, x.begins)
			}
			if levels[0] != 0 || levels[1] != x.first || levels[2] != x.first+x.step || levels[n] != x.most || levels[2*n+1] != 0 {
				t.Errorf("%d of %s within one another: levels %d, %d, %d, %d, %d", n, x.begins, levels[0], levels[1], levels[2], levels[n], levels[2*n+1])
			}
			for i := 1; i < n; i++ {
				if levels[i] > levels[i+1] || levels[n+i] < levels[n+i+1] {
					t.Fatalf("%d of %s within one another: levels don't rise and fall at %d", n, x.begins, i)
				}
			}
		}
	}
}

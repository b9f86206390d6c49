package level_test

import (
	"slices"
	"strings"
	"testing"

	"ductus/api"
	"ductus/level"
	"ductus/sample"
)

// said: what each call is to answer of a text, where directions are asked for.
type said struct {
	dirs         []int
	text         string
	base         int
	levels, told string
}

var (
	left  = []int{api.DirLeft}
	right = []int{api.DirRight}
)

func (s said) check(t *testing.T) {
	t.Helper()
	chars, told := write(s.text), read(s.told)
	for _, dir := range s.dirs {
		check(t, chars, dir, s.base, read(s.levels), told)
	}
}

func checkAll(t *testing.T, all []said) {
	t.Helper()
	for _, s := range all {
		s.check(t)
	}
}

// check: what each call answers of characters.
func check(t *testing.T, chars []int, dir, base int, levels, told []int) bool {
	t.Helper()
	l, b := level.Of(chars, dir)
	if !slices.Equal(l, levels) || b != base {
		t.Errorf("Of %s, with %d: %s of %d, not %s of %d", show(chars), dir, numbers(l), b, numbers(levels), base)
		return false
	}
	if got := level.Classes(chars, dir); !slices.Equal(got, told) {
		t.Errorf("Classes of %s, with %d: %s, not %s", show(chars), dir, sample.Words(got), sample.Words(told))
		return false
	}
	whole := len(slices.Compact(slices.Clone(levels))) <= 1
	if got := level.Whole(chars, dir); got != whole {
		t.Errorf("Whole of %s, with %d: %t, not %t", show(chars), dir, got, whole)
		return false
	}
	return true
}

// P12.1: the chapter's example.
func TestExample(t *testing.T) {
	for _, dir := range append(slices.Clone(looked), left...) {
		check(t, []int{'a', 0x5d0, 'b'}, dir, 0, []int{0, 1, 0}, read("L R L"))
	}
}

// P12.1: no characters: the base is that of nothing.
func TestNone(t *testing.T) {
	for _, chars := range [][]int{nil, {}} {
		for _, dir := range append(slices.Clone(looked), left...) {
			check(t, chars, dir, 0, nil, nil)
		}
		check(t, chars, api.DirRight, 1, nil, nil)
	}
}

// P12.1: each class, alone, in each of its characters.
func TestEachClass(t *testing.T) {
	for _, x := range []struct{ class, left, leftTold, right, rightTold string }{
		{"L", "0", "L", "2", "L"}, {"R", "1", "R", "1", "R"}, {"AL", "1", "R", "1", "R"}, {"EN", "0", "L", "2", "EN"}, {"ES", "0", "L", "1", "R"}, {"ET", "0", "L", "1", "R"},
		{"AN", "2", "AN", "2", "AN"}, {"CS", "0", "L", "1", "R"}, {"NSM", "0", "L", "1", "R"}, {"BN", "0", "BN", "1", "BN"}, {"B", "0", "L", "1", "R"}, {"S", "0", "L", "1", "R"},
		{"WS", "0", "L", "1", "R"}, {"ON", "0", "L", "1", "R"}, {"LRE", "0", "LRE", "1", "LRE"}, {"LRO", "0", "LRO", "1", "LRO"}, {"RLE", "0", "RLE", "1", "RLE"}, {"RLO", "0", "RLO", "1", "RLO"},
		{"PDF", "0", "PDF", "1", "PDF"}, {"LRI", "0", "L", "1", "R"}, {"RLI", "0", "L", "1", "R"}, {"FSI", "0", "L", "1", "R"}, {"PDI", "0", "L", "1", "R"},
	} {
		for _, c := range letters[read(x.class)[0]] {
			check(t, []int{c}, api.DirLeft, 0, read(x.left), read(x.leftTold))
			check(t, []int{c}, api.DirRight, 1, read(x.right), read(x.rightTold))
			for _, dir := range looked {
				if x.class == "R" || x.class == "AL" {
					check(t, []int{c}, dir, 1, read(x.right), read(x.rightTold))
				} else {
					check(t, []int{c}, dir, 0, read(x.left), read(x.leftTold))
				}
			}
		}
	}
	for _, row := range couples {
		for _, couple := range row {
			for _, c := range couple {
				check(t, []int{c}, api.DirLeft, 0, read("0"), read("L"))
				check(t, []int{c}, api.DirRight, 1, read("1"), read("R"))
			}
		}
	}
}

// P12.1: the base is what is asked for, whatever stands there, or else that of the first strong one that is in no isolate.
func TestBase(t *testing.T) {
	checkAll(t, []said{
		{left, "R L", 0, "1 0", "R L"}, {right, "L R", 1, "2 1", "L R"}, {left, "AL", 0, "1", "R"}, {right, "L", 1, "2", "L"},
		// L first, R first, AL first, and none.
		{looked, "L R", 0, "0 1", "L R"}, {looked, "R L", 1, "1 2", "R L"}, {looked, "AL L", 1, "1 2", "R L"}, {looked, "AL R", 1, "1 1", "R R"},
		{looked, "WS L R", 0, "0 0 1", "L L R"}, {looked, "WS EN R", 1, "1 2 1", "R EN R"}, {looked, "AN AL", 1, "2 1", "AN R"}, {looked, "EN AN WS", 0, "0 2 0", "L AN L"}, {looked, "NSM ( R )", 1, "1 1 1 1", "R R R R"},
		// Only within an isolate, and behind one.
		{looked, "RLI R PDI", 0, "0 1 0", "L R L"}, {looked, "LRI AL PDI WS", 0, "0 3 0 0", "L R L L"}, {looked, "RLI R PDI L", 0, "0 1 0 0", "L R L L"}, {looked, "RLI L PDI R", 1, "1 4 1 1", "R L R R"}, {looked, "LRI L PDI R", 1, "1 2 1 1", "R L R R"},
		{looked, "RLI R", 0, "0 1", "L R"}, {looked, "FSI R WS R", 0, "0 1 1 1", "L R R R"}, {looked, "RLI LRI R PDI PDI L", 0, "0 1 3 1 0 0", "L R R R L L"}, {looked, "LRI L PDI PDI R", 1, "1 2 1 1 1", "R L R R R"}, {looked, "PDI R", 1, "1 1", "R R"},
		// Only behind an embedding, and within one.
		{looked, "RLE R", 1, "1 3", "RLE R"}, {looked, "RLE L", 0, "0 2", "RLE L"}, {looked, "LRE R PDF", 1, "1 3 3", "LRE R PDF"}, {looked, "LRO AL PDF", 1, "1 2 2", "LRO L PDF"}, {looked, "RLE PDF L", 0, "0 0 0", "RLE PDF L"}, {looked, "LRE PDF R", 1, "1 1 1", "LRE PDF R"}, {looked, "LRE PDF WS", 0, "0 0 0", "LRE PDF L"}, {looked, "BN R", 1, "1 1", "BN R"},
	})
}

// P12.1: several paragraphs: the base is the first one's, and nothing goes from one on to the next one but the level of what stands ahead of what is left out.
func TestParagraphs(t *testing.T) {
	auto := looked[:1]
	checkAll(t, []said{
		{auto, "L B R", 0, "0 0 1", "L L R"}, {auto, "R B L", 1, "1 1 2", "R R L"}, {auto, "R B", 1, "1 1", "R R"}, {auto, "L B", 0, "0 0", "L L"}, {right, "L B", 1, "2 1", "L R"}, {left, "R B", 0, "1 0", "R L"},
		{auto, "B R", 0, "0 1", "L R"}, {auto, "B AL B R", 0, "0 1 0 1", "L R L R"}, {auto, "WS B R", 0, "0 0 1", "L L R"}, {auto, "B B B", 0, "0 0 0", "L L L"}, {right, "B B", 1, "1 1", "R R"}, {auto, "RLI R B R", 0, "0 1 0 1", "L R L R"},
		// What is open has ended.
		{left, "RLE L B L", 0, "0 2 0 0", "RLE L L L"}, {auto, "R RLE L B L", 1, "1 1 4 1 2", "R RLE L R L"}, {left, "RLO L EN B L EN", 0, "0 1 1 0 0 0", "RLO R R L L L"}, {left, "RLI L B PDI L", 0, "0 2 0 0 0", "L L L L L"}, {auto, "LRI R B R PDI L", 0, "0 3 0 1 0 0", "L R L R L L"}, {left, "RLE B PDF R", 0, "0 0 0 1", "RLE L PDF R"},
		// No number, mark, bracket or neutral one looks over a B.
		{auto, "AL B EN", 1, "1 1 2", "R R EN"}, {auto, "AL WS EN", 1, "1 1 2", "R R AN"}, {left, "R EN B EN", 0, "1 2 0 0", "R EN L L"}, {left, "R B NSM", 0, "1 0 0", "R L L"}, {auto, "R EN B CS EN", 1, "1 2 1 1 2", "R EN R R EN"},
		{left, "R ( B R )", 0, "1 0 0 1 0", "R L L R L"}, {left, "R ( WS R )", 0, "1 1 1 1 1", "R R R R R"}, {left, "R WS B WS R", 0, "1 0 0 0 1", "R L L L R"}, {left, "R WS S WS R", 0, "1 1 1 1 1", "R R R R R"},
		// What is left out behind it.
		{left, "R B BN L", 0, "1 0 0 0", "R L BN L"}, {auto, "R B LRE R", 1, "1 1 1 3", "R R LRE R"}, {auto, "R L BN B BN L", 1, "1 2 2 1 1 2", "R L BN R BN L"},
	})
}

// P12.1: numbers, what stands between them, and what stands beside them, in texts of both directions.
func TestNumbers(t *testing.T) {
	checkAll(t, []said{
		{left, "L EN", 0, "0 0", "L L"}, {left, "R EN", 0, "1 2", "R EN"}, {left, "AL EN", 0, "1 2", "R AN"}, {left, "R AN", 0, "1 2", "R AN"}, {left, "L AN", 0, "0 2", "L AN"}, {left, "EN R", 0, "0 1", "L R"}, {left, "L WS EN R", 0, "0 0 0 1", "L L L R"},
		{left, "R WS EN", 0, "1 1 2", "R R EN"}, {left, "R EN WS L", 0, "1 2 0 0", "R EN L L"}, {left, "AL WS EN WS L", 0, "1 1 2 0 0", "R R AN L L"}, {left, "L R EN AN L", 0, "0 1 2 2 0", "L R EN AN L"}, {left, "AL L EN R EN", 0, "1 0 0 1 2", "R L L R EN"},
		{right, "L EN", 1, "2 2", "L L"}, {right, "EN", 1, "2", "EN"}, {right, "R EN L", 1, "1 2 2", "R EN L"}, {right, "L WS EN", 1, "2 2 2", "L L L"}, {right, "EN L", 1, "2 2", "EN L"}, {right, "EN WS L", 1, "2 1 2", "EN R L"}, {right, "L WS AN", 1, "2 1 2", "L R AN"}, {right, "AL L EN AL EN", 1, "1 2 2 1 2", "R L L R AN"},
		{looked, "L WS R WS EN EN CS WS L", 0, "0 0 1 1 2 2 0 0 0", "L L R R EN EN L L L"}, {looked, "R WS EN L", 1, "1 1 2 2", "R R EN L"}, {looked, "EN WS R", 1, "2 1 1", "EN R R"},
		// Separators.
		{looked, "R EN ES EN", 1, "1 2 2 2", "R EN EN EN"}, {looked, "AL EN ES EN", 1, "1 2 1 2", "R AN R AN"}, {looked, "AL EN CS EN", 1, "1 2 2 2", "R AN AN AN"}, {looked, "R EN CS EN CS EN", 1, "1 2 2 2 2 2", "R EN EN EN EN EN"}, {looked, "R EN CS CS EN", 1, "1 2 1 1 2", "R EN R R EN"}, {looked, "L EN CS EN R", 0, "0 0 0 0 1", "L L L L R"},
		{looked, "R AN CS AN", 1, "1 2 2 2", "R AN AN AN"}, {looked, "R AN ES AN", 1, "1 2 1 2", "R AN R AN"}, {looked, "R AN CS EN", 1, "1 2 1 2", "R AN R EN"}, {looked, "AL AN CS EN", 1, "1 2 2 2", "R AN AN AN"}, {left, "R EN ES L", 0, "1 2 0 0", "R EN L L"},
		// Terminators.
		{looked, "R ET ET EN", 1, "1 2 2 2", "R EN EN EN"}, {looked, "R EN ET WS L", 1, "1 2 2 1 2", "R EN EN R L"}, {looked, "AL ET EN", 1, "1 1 2", "R R AN"}, {left, "R ET L", 0, "1 0 0", "R L L"}, {looked, "R EN CS ET EN", 1, "1 2 1 2 2", "R EN R EN EN"}, {looked, "ET EN WS R", 1, "2 2 1 1", "EN EN R R"}, {left, "L ET EN", 0, "0 0 0", "L L L"},
		// Marks.
		{left, "R NSM L", 0, "1 1 0", "R R L"}, {left, "NSM R", 0, "0 1", "L R"}, {looked, "AL NSM EN", 1, "1 1 2", "R R AN"}, {looked, "R EN NSM NSM L", 1, "1 2 2 2 2", "R EN EN EN L"}, {looked, "R WS NSM L", 1, "1 1 1 2", "R R R L"}, {left, "R LRI L PDI NSM R", 0, "1 1 2 1 1 1", "R R L R R R"},
	})
}

// P12.1: brackets round L and R, numbers, both, and nothing with a side; they count as one, whatever else stands beside each.
func TestBrackets(t *testing.T) {
	checkAll(t, []said{
		{left, "L ( R ) L", 0, "0 0 1 0 0", "L L R L L"}, {left, "R ( L ) R", 0, "1 0 0 0 1", "R L L L R"}, {left, "R ( R ) R", 0, "1 1 1 1 1", "R R R R R"}, {left, "R ( R ) L", 0, "1 1 1 1 0", "R R R R L"}, {left, "L ( R ) R", 0, "0 0 1 0 1", "L L R L R"}, {left, "R ( R L ) R", 0, "1 0 1 0 0 1", "R L R L L R"}, {left, "( R ) L", 0, "0 1 0 0", "L R L L"}, {left, "( R )", 0, "0 1 0", "L R L"},
		{right, "R ( L ) R", 1, "1 1 2 1 1", "R R L R R"}, {right, "L ( R ) L", 1, "2 1 1 1 2", "L R R R L"}, {right, "L ( L ) L", 1, "2 2 2 2 2", "L L L L L"}, {right, "L ( L ) R", 1, "2 2 2 2 1", "L L L L R"}, {right, "R ( L ) L", 1, "1 1 2 1 2", "R R L R L"}, {right, "L ( L R ) L", 1, "2 1 2 1 1 2", "L R L R R L"}, {right, "( L ) R", 1, "1 2 1 1", "R L R R"}, {looked, "R WS ( L )", 1, "1 1 1 2 1", "R R R L R"},
		// With a number.
		{left, "R ( EN )", 0, "1 1 2 1", "R R EN R"}, {left, "L ( EN ) R", 0, "0 0 0 0 1", "L L L L R"}, {left, "R ( EN ) L", 0, "1 1 2 1 0", "R R EN R L"}, {left, "( EN ) R", 0, "0 0 0 1", "L L L R"}, {left, "( AN ) L", 0, "0 2 0 0", "L AN L L"}, {left, "R ( AN ) L", 0, "1 1 2 1 0", "R R AN R L"}, {left, "L ( AN ) R", 0, "0 0 2 0 1", "L L AN L R"}, {right, "( AN ) L", 1, "1 2 1 2", "R AN R L"}, {right, "L ( EN ) L", 1, "2 2 2 2 2", "L L L L L"}, {right, "L ( AN ) L", 1, "2 1 2 1 2", "L R AN R L"}, {looked, "AL ( EN CS EN )", 1, "1 1 2 2 2 1", "R R AN AN AN R"},
		// With nothing that has a side, or without their other one, they are neutral.
		{left, "R ( ) R", 0, "1 1 1 1", "R R R R"}, {left, "R ( WS ) L", 0, "1 0 0 0 0", "R L L L L"}, {left, "R ( L R", 0, "1 0 0 1", "R L L R"}, {left, "R ) L ( R", 0, "1 0 0 0 1", "R L L L R"}, {left, "R ( R ] R", 0, "1 1 1 1 1", "R R R R R"}, {right, "L ( R ] L", 1, "2 1 1 1 2", "L R R R L"}, {left, "R ( ET ) ES R", 0, "1 1 1 1 1 1", "R R R R R R"},
		// Within others, and behind them.
		{left, "R ( [ R ] L ) R", 0, "1 0 0 1 0 0 0 1", "R L L R L L L R"}, {left, "R ( [ R ) L ] R", 0, "1 1 1 1 1 0 0 1", "R R R R R L L R"}, {left, "R ( [ ) L ] R", 0, "1 0 0 0 0 0 1", "R L L L L L R"}, {left, "R ( L ) [ R ] R", 0, "1 0 0 0 0 1 0 1", "R L L L L R L R"}, {right, "L { L } L ( R ) L", 1, "2 2 2 2 2 1 1 1 2", "L L L L L R R R L"},
		// In an embedding, and behind one.
		{left, "RLE L ( L R ) L PDF", 0, "0 2 1 2 1 1 2 2", "RLE L R L R R L PDF"}, {right, "LRE R ( R L ) R PDF", 1, "1 3 2 3 2 2 3 3", "LRE R L R L L R PDF"}, {left, "RLE R PDF ( R ) L", 0, "0 1 1 1 1 1 0", "RLE R PDF R R R L"}, {left, "( R ) RLE R PDF", 0, "0 1 0 0 1 1", "L R L RLE R PDF"},
		// Their marks go with them; where the mark is overridden it is none.
		{left, "R ( NSM L ) NSM NSM R", 0, "1 0 0 0 0 0 0 1", "R L L L L L L R"}, {right, "L ( R ) NSM L", 1, "2 1 1 1 1 2", "L R R R R L"}, {left, "RLE L ( L ) NSM PDF", 0, "0 2 2 2 2 2 2", "RLE L L L L L PDF"}, {left, "RLE L ( L ) PDF RLO NSM PDF", 0, "0 2 2 2 2 2 2 1 1", "RLE L L L L PDF RLO R PDF"}, {left, "R ( WS ) NSM L", 0, "1 0 0 0 0 0", "R L L L L L"},
		// Over what is left out, and over isolates, whatever these have; not out of one, and not overridden.
		{left, "R ( BN R BN ) L", 0, "1 1 1 1 1 1 0", "R R BN R BN R L"}, {left, "R ( RLI L PDI ) R", 0, "1 1 1 2 1 1 1", "R R R L R R R"}, {left, "R ( RLI L ) PDI R ) L", 0, "1 1 1 2 1 1 1 1 0", "R R R L R R R R L"}, {left, "RLO R ( L ) PDF", 0, "0 1 1 1 1 1", "RLO R R R R PDF"}, {left, "RLE R ( PDF L ) R", 0, "0 1 1 1 0 0 1", "RLE R R PDF L L R"},
		{left, "LRE ( PDF LRO RLI R PDI PDF LRE R ) R PDF", 0, "0 2 2 2 2 3 2 2 2 3 2 3 3", "LRE L PDF LRO L R L PDF LRE R L R PDF"},
	})
	for kind, row := range couples {
		for _, opening := range row {
			for _, closing := range row {
				check(t, []int{0x5d0, opening[0], 'a', closing[1], 0x5d0}, api.DirRight, 1, read("1 1 2 1 1"), read("R R L R R"))
				check(t, []int{'a', opening[0], 0x5d0, closing[1], 'a'}, api.DirRight, 1, read("2 1 1 1 2"), read("L R R R L"))
				other := couples[(kind+1)%len(couples)][0]
				check(t, []int{0x5d0, opening[0], 'a', other[1], 'a'}, api.DirRight, 1, read("1 1 2 2 2"), read("R R L L L"))
			}
		}
	}
}

// P12.1: at most 63 brackets wait at a time; behind one that is one too many none is of a pair.
func TestManyBrackets(t *testing.T) {
	for n, side := range map[string]string{"62": "L 0", "63": "L 0", "64": "R 1"} {
		told, levels, _ := strings.Cut(side, " ")
		said{
			left, "R ( L ) R (*" + n + " R L R )*" + n + " R", 0,
			"1 0 0 0 1 " + levels + "*" + n + " 1 0 1 " + levels + "*" + n + " 1", "R L L L R " + told + "*" + n + " R L R " + told + "*" + n + " R",
		}.check(t)
	}
}

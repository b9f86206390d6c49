package level_test

import (
	"slices"
	"testing"

	"ductus/api"
	"ductus/level"
	"ductus/sample"
)

// Some in which much becomes something, and nothing.
var told = []said{
	{left, "R ( L ) BN NSM RLE ET EN PDF B AL", 0, "1 0 0 0 0 0 0 2 2 2 0 1", "R L L L BN L RLE EN EN PDF L R"},
	{right, "L RLI L PDI AN", 1, "2 1 4 1 2", "L R L R AN"},
	{looked, "AL EN", 1, "1 2", "R AN"},
	{looked, "L L", 0, "0 0", "L L"},
	{looked, "BN BN", 0, "0 0", "BN BN"},
	{looked, "R", 1, "1", "R"},
}

// P12.1, by the rules that hold everywhere: what is handed in isn't changed nor kept, its spare room neither; what is answered is new.
func TestNothingIsChanged(t *testing.T) {
	for _, s := range told {
		s.check(t)
		for _, dir := range s.dirs {
			levels := func(l []int) []int {
				level.Whole(l, dir)
				out, _ := level.Of(l, dir)
				level.Most(out)
				return out
			}
			classes := func(l []int) []int { return level.Classes(l, dir) }
			for call, fault := range map[string]string{
				"Of":      sample.Fault(write(s.text), read(s.levels), -77, levels),
				"Classes": sample.Fault(write(s.text), read(s.told), 77, classes),
			} {
				if fault != "" {
					t.Errorf("%s of %s %s", call, s.text, fault)
				}
			}
		}
	}
}

// P12.1, by the rules: Most and Whole, which answer no list, leave theirs as they are, too.
func TestMostAndWholeChangeNothing(t *testing.T) {
	for l := range sample.MixedOf([]int{-2, 0, 1, 2, 126}, 200, 20) {
		whole := append(slices.Clone(l), 500, 501)
		was := slices.Clone(whole)
		most := level.Most(whole[:len(l)])
		if !slices.Equal(whole, was) || most >= 500 {
			t.Errorf("Most of %s: %d, and it is %s", numbers(l), most, numbers(whole))
		}
	}
	for l := range sample.MixedOf(all(), 200, 20) {
		whole := append(slices.Clone(l), write("R EN L")...)
		was := slices.Clone(whole)
		first := level.Whole(whole[:len(l)], api.DirLeft)
		if !slices.Equal(whole, was) || first != level.Whole(l, api.DirLeft) {
			t.Errorf("Whole of %s: %t, and it is %s", show(l), first, show(whole))
		}
	}
}

// P12.1, by the rules: the spare room behind a list isn't of it, nor what stands ahead of it.
func TestSpareRoomIsNotRead(t *testing.T) {
	chars := write("AL EN ( R ) L RLI L PDI R")
	for from := range len(chars) {
		for to := from; to <= len(chars); to++ {
			checkOracle(t, chars[from:to], given...)
			checkOracle(t, slices.Clone(chars[from:to]), given...)
		}
	}
}

// P12.1, by the rules: a call hangs on its arguments alone, whatever was called ahead of it, and however often it is called.
func TestNothingIsKept(t *testing.T) {
	for range 20 {
		checkAll(t, told)
		// What is open at the end of one text isn't open in another one.
		checkAll(t, []said{
			{left, "RLO L", 0, "0 1", "RLO R"}, {left, "L PDI R", 0, "0 0 1", "L L R"}, {left, "R (", 0, "1 0", "R L"}, {left, "L ) R", 0, "0 0 1", "L L R"},
			{left, "AL", 0, "1", "R"}, {left, "EN", 0, "0", "L"}, {right, "EN", 1, "2", "EN"}, {looked, "EN", 0, "0", "L"}, {looked, "BN", 0, "0", "BN"},
		})
	}
	// The same list, with something else in it.
	chars := write("R ON R")
	check(t, chars, api.DirLeft, 0, read("1 1 1"), read("R R R"))
	chars[2] = 'a'
	check(t, chars, api.DirLeft, 0, read("1 0 0"), read("R L L"))
	check(t, chars, api.DirAuto, 1, read("1 1 2"), read("R R L"))
	chars[0] = 'b'
	check(t, chars, api.DirAuto, 0, read("0 0 0"), read("L L L"))
}

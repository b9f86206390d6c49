package order_test

import (
	"slices"
	"testing"

	"ductus/order"
	"ductus/sample"
)

// Lines in which much is turned, and nothing.
var told = []struct{ text, levels, order, seen string }{
	{"L ( R ) ON", "0 1 1 1 0", "0 3 2 1 4", "L ( R ) ON"},
	{"( [ L", "1 1 2", "2 1 0", "L ] )"},
	{"( [ L", "0 0 0", "0 1 2", "( [ L"},
	{"( [ L", "2 2 2", "0 1 2", "( [ L"},
	{"( L", "-1 128", "0 1", ") L"},
	{"[", "129", "0", "]"},
	{"L", "0", "0", "L"},
}

// P14.1, by the rules that hold everywhere: what is handed in isn't changed nor kept, its spare room neither; what is answered is new, though nothing is turned.
func TestNothingIsChanged(t *testing.T) {
	for _, x := range told {
		chars, levels, l := write(x.text), read(x.levels), read(x.order)
		keep := slices.Repeat([]bool{true}, 9)
		back := func(l []int) []int {
			order.Right(l)
			out, _ := order.Back(l)
			return out
		}
		for call, fault := range map[string]string{
			"Of":                       sample.Fault(levels, l, -77, order.Of),
			"Back":                     sample.Fault(l, backOf(l), -77, back),
			"Seen, of its characters,": sample.Fault(chars, write(x.seen), 77, func(chars []int) []int { return order.Seen(chars, levels) }),
			"Seen, of its levels,":     sample.Fault(levels, write(x.seen), 77, func(levels []int) []int { return order.Seen(chars, levels) }),
			"Only":                     sample.Fault(l, l, -77, func(l []int) []int { return order.Only(l, keep) }),
		} {
			if fault != "" {
				t.Errorf("%s of %s, of levels %s: it %s", call, x.text, x.levels, fault)
			}
		}
		if !slices.Equal(chars, write(x.text)) || !slices.Equal(levels, read(x.levels)) || slices.Contains(keep, false) {
			t.Errorf("%s, levels %s, is %s, %s, %t", x.text, x.levels, show(chars), numbers(levels), keep)
		}
	}
	// One list that is handed in as both.
	both := read("1 1 40 0")
	checkSeen(t, both, both, read("40 1 1 0"))
	both = []int{41, 60, 7}
	checkSeen(t, both, both, []int{7, 60, 40})
	if !slices.Equal(both, []int{41, 60, 7}) {
		t.Errorf("Seen changes what it is handed twice to %s", numbers(both))
	}
}

// P14.1, by the rules: lists that are wrong are left as they are, too.
func TestWrongOnesAreLeft(t *testing.T) {
	for l := range sample.MixedOf([]int{-1, 0, 1, 2, 3, 4, 9}, 500, 8) {
		whole := append(slices.Clone(l), 500, 501)
		was := slices.Clone(whole)
		order.Right(whole[:len(l)])
		order.Back(whole[:len(l)])
		order.Seen(whole[:len(l)], whole)
		order.Seen(whole, whole[:len(l)])
		order.Only(whole[:len(l)], nil)
		if !slices.Equal(whole, was) {
			t.Fatalf("%s is %s", numbers(was), numbers(whole))
		}
	}
}

// P14.1, by the rules: flags are left as they are, the room behind them neither is read.
func TestFlagsAreLeft(t *testing.T) {
	for signs := range sample.MixedOf([]int{0, 1}, 300, 12) {
		keep := make([]bool, len(signs))
		for i := range keep {
			keep[i] = signs[i] == 1
		}
		whole := append(slices.Clone(keep), true, false, true)
		was := slices.Clone(whole)
		l := after(len(whole))
		checkOnly(t, l, whole[:len(keep)], onlyOf(l, keep))
		if !slices.Equal(whole, was) {
			t.Fatalf("%t is %t", was, whole)
		}
	}
}

// P14.1, by the rules: the spare room behind a list isn't of it, nor what stands ahead of it.
func TestSpareRoomIsNotRead(t *testing.T) {
	chars, levels, l := write("L ( R [ EN ) ON {"), read("0 1 1 2 128 1 -1 3"), read("0 1 2 3 0 1 4 2")
	for from := range levels {
		for to := from; to <= len(levels); to++ {
			check(t, levels[from:to], orderOf(levels[from:to]))
			checkSeen(t, chars[from:to], levels[from:to], seenOf(chars[from:to], levels[from:to]))
			checkWords(t, l[from:to])
			checkOnly(t, l[from:to], flags("1011"), onlyOf(l[from:to], flags("1011")))
			if to < len(levels) {
				checkSeen(t, chars[from:to], levels[from:], nil)
				checkSeen(t, chars[from:], levels[from:to], nil)
			}
		}
	}
}

// P14.1, by the rules: a call hangs on its arguments alone, whatever was called ahead of it, and however often it is called.
func TestNothingIsKept(t *testing.T) {
	for range 20 {
		for _, x := range told {
			check(t, read(x.levels), read(x.order))
			checkSeen(t, write(x.text), read(x.levels), write(x.seen))
			checkBack(t, read(x.order), true, backOf(read(x.order)))
		}
		check(t, nil, nil)
		checkBack(t, []int{1}, false, nil)
		checkBack(t, []int{0, 0}, false, nil)
		checkBack(t, []int{0}, true, []int{0})
		checkSeen(t, []int{'('}, nil, nil)
		checkOnly(t, []int{1, 0}, flags("11"), []int{1, 0})
		checkOnly(t, []int{1, 0}, flags("01"), []int{1})
	}
	// The same lists, with something else in them.
	chars, levels, keep := write("( L"), read("1 1"), flags("11")
	l := order.Of(levels)
	checkSeen(t, chars, levels, write("L )"))
	checkOnly(t, l, keep, []int{1, 0})
	levels[0], chars[1], keep[0] = 0, ']', false
	check(t, levels, []int{0, 1})
	checkSeen(t, chars, levels, write("( ["))
	checkOnly(t, l, keep, []int{1})
	checkBack(t, l, true, []int{1, 0})
	l[0] = 0
	checkBack(t, l, false, nil)
}

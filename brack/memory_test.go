package brack_test

import (
	"slices"
	"testing"

	"ductus/api"
	"ductus/brack"
)

// Some that are told in full: those of which much becomes something, and nothing.
var told = []becomes{
	{[]int{0}, right, "L ( ON~ R [ L ] ON~ ) ON~", "L L L R L L L L L L"},
	{[]int{1}, right, "( [ L ] ) WS", "R R L R R WS"},
	{[]int{0}, right, "( R ) [ R ]", "R R R R R R"},
	{[]int{0}, right, "L R EN", "L R EN"},
	{[]int{0}, right, "( ON~ )", "ON ON ON"},
	{[]int{1}, right, "(", "ON"},
}

// whole: a list with room behind each of its own, where others stand that would say something.
func whole(x list) list {
	behind := parse(") ON~ L ]")
	return list{slices.Concat(x.chars, behind.chars), slices.Concat(x.classes, behind.classes), slices.Concat(x.first, behind.first)}
}

func (x list) clone() list {
	return list{slices.Clone(x.chars), slices.Clone(x.classes), slices.Clone(x.first)}
}

func (x list) equal(y list) bool {
	return slices.Equal(x.chars, y.chars) && slices.Equal(x.classes, y.classes) && slices.Equal(x.first, y.first)
}

// upTo: the first ones, with the others in the room behind them.
func (x list) upTo(n int) list {
	return list{x.chars[:n], x.classes[:n], x.first[:n]}
}

func (x list) fill(n int) {
	for _, l := range [][]int{x.chars, x.classes, x.first} {
		for i := range l {
			l[i] = n
		}
	}
}

// P10.1, by the rules that hold everywhere: what Of is handed isn't changed nor kept, its spare room neither, and what it answers is new, also where that is the classes.
func TestOfChangesNothing(t *testing.T) {
	for _, b := range told {
		for _, unlike := range []int{0, 1} {
			x := whole(parse(b.text))
			was, part, want := x.clone(), x.upTo(len(parse(b.text).chars)), read(b.want)
			if unlike > 0 {
				part.first = part.first[:len(part.first)-unlike]
				want = slices.Clone(part.classes)
			}
			of := func() []int { return brack.Of(part.chars, part.classes, part.first, b.levels[0], api.R) }
			got, other := of(), of()
			if !x.equal(was) {
				t.Errorf("what was handed in was changed from %v to %v", was, x)
			}
			list{other[:cap(other)], nil, nil}.fill(77)
			if !x.equal(was) {
				t.Errorf("the answer is what was handed in, or its spare room: %v is %v", was, x)
			}
			x.fill('(')
			brack.Of([]int{'(', 'x', ')'}, read("ON L ON"), read("ON L ON"), 0, api.L)
			if !slices.Equal(got, want) {
				t.Errorf("the answer to %s was changed to %s, not %s", b.text, show(got), show(want))
			}
		}
	}
}

// P10.1, by the rules: what Pairs and Sides are handed isn't changed nor kept, its spare room neither, and what Pairs answers is new.
func TestPairsChangesNothing(t *testing.T) {
	for _, b := range told {
		x := whole(parse(b.text))
		n := len(parse(b.text).chars)
		was, part, want := x.clone(), x.upTo(n), parse(b.text).pairs()
		got, other := brack.Pairs(part.chars, part.classes), brack.Pairs(part.chars, part.classes)
		for i := range other[:cap(other)] {
			other[:cap(other)][i] = [2]int{-1, -1}
		}
		for from := range n + 2 {
			brack.Sides(part.classes, from, n)
		}
		if !x.equal(was) {
			t.Errorf("what was handed in was changed from %v to %v", was, x)
		}
		x.fill(')')
		brack.Pairs([]int{'(', '(', ')', ')'}, read("ON ON ON ON"))
		if !slices.Equal(got, want) {
			t.Errorf("the pairs of %s were changed to %d, not %d", b.text, got, want)
		}
	}
}

// P10.1, by the rules: one list handed in as all three is but read.
func TestOneListAsAll(t *testing.T) {
	l := []int{'(', api.ON, api.L, ')', api.NSM, 0x3008}
	checkOf(t, list{l, l, l}, 0, api.L, []int{'(', api.ON, api.L, ')', api.NSM, 0x3008})
	x := parse("( ON L ) ON")
	x.first = x.classes
	checkOf(t, x, 0, api.R, read("L ON L L ON"))
	if !slices.Equal(x.classes, read("ON ON L ON ON")) {
		t.Errorf("it was changed to %s", show(x.classes))
	}
}

// P10.1, by the rules: the spare room behind a list isn't of it, nor what stands ahead of it.
func TestSpareRoomIsNotRead(t *testing.T) {
	x := parse("R ( L ) ON~ R )")
	checkPairs(t, x.upTo(3), nil)
	checkOf(t, x.upTo(3), 0, api.R, read("R ON L"))
	checkOf(t, x.upTo(4), 0, api.R, read("R L L L"))
	checkSides(t, x.classes[:2], 0, 3, false, true)
	behind := list{x.chars[3:], x.classes[3:], x.first[3:]}
	checkPairs(t, behind, nil)
	ahead := parse("R ( R )")
	checkOf(t, list{ahead.chars[1:], ahead.classes[1:], ahead.first[1:]}, 0, api.L, read("L R L"))
	ahead = parse("L ( R )")
	checkOf(t, list{ahead.chars[1:], ahead.classes[1:], ahead.first[1:]}, 0, api.R, read("R R R"))
}

// P10.1, by the rules: a call hangs on its arguments alone, whatever was called ahead of it, and however often it is called.
func TestNothingIsKept(t *testing.T) {
	for range 20 {
		for _, b := range told {
			b.check(t)
			checkPairs(t, parse(b.text), parse(b.text).pairs())
		}
		// What waited in one list is closed by none of another one.
		checkTold(t, "( [ {")
		checkTold(t, ") ] }")
		checkOf(t, parse("( R )"), 0, api.R, read("R R R"))
		checkOf(t, parse("( R )"), 0, api.L, read("L R L"))
		checkOf(t, parse("L"), 0, api.L, read("L"))
		checkOf(t, parse("( R )"), 0, api.R, read("R R R"))
	}
	// The same list, with something else in it.
	x := parse("( R )")
	checkOf(t, x, 0, api.L, read("L R L"))
	x.classes[1] = api.WS
	checkOf(t, x, 0, api.L, read("ON WS ON"))
	x.chars[2] = ']'
	x.classes[1] = api.L
	checkOf(t, x, 0, api.L, read("ON L ON"))
	checkPairs(t, x, nil)
	x.chars[2] = ')'
	checkPairs(t, x, [][2]int{{0, 2}})
}

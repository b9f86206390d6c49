package neutral_test

import (
	"slices"
	"testing"

	"ductus/api"
	"ductus/neutral"
	"ductus/sample"
)

// said: what is told in full of a list of level 0, behind R and ahead of R.
type said struct {
	l, of  string
	groups [][2]int
	levels []int
}

// Some in which much becomes something, and nothing.
var told = []said{
	{"ON R WS WS EN B L NSM S", "R R R R EN L L NSM L", [][2]int{{0, 1}, {2, 4}, {5, 6}, {8, 9}}, []int{0, 1, 0, 0, 2, 0, 0, 0, 0}},
	{"LRI PDI", "R R", [][2]int{{0, 2}}, []int{0, 0}},
	{"L R AL 99", "L R AL 99", nil, []int{0, 1, 0, 0}},
	{"L", "L", nil, []int{0}},
}

func (s said) check(t *testing.T) {
	t.Helper()
	checkOf(t, asked{read(s.l), 0, api.R, api.R}, read(s.of))
	checkGroups(t, read(s.l), s.groups)
	checkLevels(t, read(s.l), 0, s.levels)
}

func of(l []int) []int {
	return neutral.Of(l, 0, api.R, api.R)
}

// P11.1, by the rules that hold everywhere: what is handed in isn't changed nor kept, its spare room neither; what is answered is new.
func TestNothingIsChanged(t *testing.T) {
	levels := func(l []int) []int { return neutral.Levels(l, 0) }
	for _, s := range told {
		s.check(t)
		for call, fault := range map[string]string{
			"Of":     sample.Fault(read(s.l), read(s.of), 77, of),
			"Groups": sample.Fault(read(s.l), s.groups, [2]int{-1, -1}, neutral.Groups),
			"Levels": sample.Fault(read(s.l), s.levels, 77, levels),
		} {
			if fault != "" {
				t.Errorf("%s %s", call, fault)
			}
		}
	}
}

// P11.1, by the rules: the spare room behind a list isn't of it, nor what stands ahead of it.
func TestSpareRoomIsNotRead(t *testing.T) {
	l := read("L ON R ON WS R")
	for _, x := range []struct {
		from, to int
		sos, eos int
		want     string
		groups   [][2]int
	}{
		{0, 2, api.L, api.L, "L L", [][2]int{{1, 2}}}, {1, 3, api.R, api.L, "R R", [][2]int{{0, 1}}}, {2, 4, api.L, api.L, "R L", [][2]int{{1, 2}}}, {2, 4, api.L, api.R, "R R", [][2]int{{1, 2}}},
		{3, 5, api.L, api.L, "L L", [][2]int{{0, 2}}}, {3, 4, api.L, api.L, "L", [][2]int{{0, 1}}}, {4, 6, api.L, api.L, "L R", [][2]int{{0, 1}}}, {3, 3, api.R, api.R, "", nil},
	} {
		part := l[x.from:x.to]
		checkOf(t, asked{part, 0, x.sos, x.eos}, read(x.want))
		checkGroups(t, part, x.groups)
		if n := len(neutral.Levels(part, 1)); n != len(part) {
			t.Errorf("Levels of %s: %d", show(part), n)
		}
	}
}

// P11.1, by the rules: a call hangs on its arguments alone, whatever was called ahead of it, and however often it is called.
func TestNothingIsKept(t *testing.T) {
	for range 20 {
		for _, s := range told {
			s.check(t)
		}
		// A group at the end of one list isn't gone on with in another one.
		checkGroups(t, read("L ON"), [][2]int{{1, 2}})
		checkGroups(t, read("L R ON"), [][2]int{{2, 3}})
		checkOf(t, asked{read("ON R"), 0, api.R, api.L}, read("R R"))
		checkOf(t, asked{read("ON R"), 0, api.L, api.L}, read("L R"))
		checkOf(t, asked{read("ON R"), 1, api.L, api.L}, read("R R"))
		checkLevel(t, api.EN, 0, 2)
		checkLevel(t, api.EN, 1, 2)
	}
	// The same list, with something else in it.
	l := read("R ON R")
	checkOf(t, asked{l, 0, api.L, api.L}, read("R R R"))
	l[2] = api.L
	checkOf(t, asked{l, 0, api.L, api.L}, read("R L L"))
	l[1] = api.NSM
	checkOf(t, asked{l, 0, api.L, api.L}, read("R NSM L"))
	checkGroups(t, l, nil)
	checkLevels(t, l, 0, []int{1, 0, 0})
	l[0] = api.AN
	checkLevels(t, l, 0, []int{2, 0, 0})
	if !slices.Equal(l, read("AN NSM L")) {
		t.Errorf("the list was changed to %s", show(l))
	}
}

package neutral_test

import (
	"slices"
	"testing"

	"ductus/api"
	"ductus/neutral"
	"ductus/sample"
)

func checkOf(t *testing.T, a asked, want []int) bool {
	t.Helper()
	got := neutral.Of(a.l, a.level, a.sos, a.eos)
	if !slices.Equal(got, want) {
		t.Errorf("Of %s, of level %d, behind %d, ahead of %d: %s, not %s", show(a.l), a.level, a.sos, a.eos, show(got), show(want))
	}
	return !t.Failed()
}

// becomes: what becomes of a list, at levels of one direction, with directions ahead of it, and behind it.
type becomes struct {
	levels, sos, eos []int
	text, want       string
}

func (b becomes) check(t *testing.T) {
	t.Helper()
	l, want := read(b.text), read(b.want)
	for _, level := range b.levels {
		for _, sos := range b.sos {
			for _, eos := range b.eos {
				// One that fails is told once, not at all levels.
				if !checkOf(t, asked{l, level, sos, eos}, want) {
					return
				}
			}
		}
	}
}

// stays: nothing changes, whatever the level and the directions.
func stays(t *testing.T, text string) {
	t.Helper()
	becomes{levels, ends, ends, text, text}.check(t)
}

// P11.1: the chapter's example.
func TestExample(t *testing.T) {
	becomes{[]int{0}, ends, ends, "R ON R", "R R R"}.check(t)
}

// P11.1: an empty list, and lists with no neutral one.
func TestNothingNeutral(t *testing.T) {
	for _, level := range levels {
		for _, sos := range ends {
			for _, eos := range ends {
				checkOf(t, asked{nil, level, sos, eos}, nil)
				checkOf(t, asked{[]int{}, level, sos, eos}, nil)
			}
		}
	}
	for _, text := range []string{"", "L", "R", "EN", "L R", "R L EN AN", show(sideless), "NSM L AL R BN EN PDF AN 99"} {
		stays(t, text)
	}
}

// P11.1: between two of the same side, of either, whatever the level; EN and AN have the side R.
func TestBetweenTheSame(t *testing.T) {
	becomes{levels, ends, ends, "L ON L", "L L L"}.check(t)
	for _, ahead := range []string{"R", "EN", "AN"} {
		for _, behind := range []string{"R", "EN", "AN"} {
			becomes{levels, ends, ends, ahead + " ON " + behind, ahead + " R " + behind}.check(t)
			becomes{levels, ends, ends, "L " + ahead + " ON WS B " + behind + " L", "L " + ahead + " R R R " + behind + " L"}.check(t)
		}
	}
}

// P11.1: between two of unlike sides: the level's direction.
func TestBetweenUnlike(t *testing.T) {
	for _, r := range []string{"R", "EN", "AN"} {
		for _, b := range []becomes{
			{even, ends, ends, "L ON " + r, "L L " + r}, {odd, ends, ends, "L ON " + r, "L R " + r},
			{even, ends, ends, r + " ON L", r + " L L"}, {odd, ends, ends, r + " ON L", r + " R L"},
			{even, ends, ends, "R L ON S " + r + " L", "R L L L " + r + " L"}, {odd, ends, ends, "L " + r + " PDI LRI L " + r, "L " + r + " R R L " + r},
		} {
			b.check(t)
		}
	}
}

// P11.1: at the beginning, where sos is ahead; eos says nothing.
func TestAtTheBeginning(t *testing.T) {
	for _, r := range []string{"R", "EN", "AN"} {
		for _, b := range []becomes{
			{levels, right, ends, "ON " + r, "R " + r}, {levels, right, ends, "WS FSI " + r + " L", "R R " + r + " L"},
			{even, lefts, ends, "ON " + r, "L " + r}, {odd, lefts, ends, "ON " + r, "R " + r}, {odd, lefts, ends, "B S " + r + " L", "R R " + r + " L"},
		} {
			b.check(t)
		}
	}
	for _, b := range []becomes{
		{levels, lefts, ends, "ON L", "L L"}, {levels, lefts, ends, "ON B PDI L R", "L L L L R"},
		{even, right, ends, "ON L", "L L"}, {odd, right, ends, "ON L", "R L"}, {odd, right, ends, "ON RLI L R", "R R L R"},
	} {
		b.check(t)
	}
}

// P11.1: at the end, where eos is behind; sos says nothing.
func TestAtTheEnd(t *testing.T) {
	for _, r := range []string{"R", "EN", "AN"} {
		for _, b := range []becomes{
			{levels, ends, right, r + " ON", r + " R"}, {levels, ends, right, "L " + r + " WS FSI", "L " + r + " R R"},
			{even, ends, lefts, r + " ON", r + " L"}, {odd, ends, lefts, r + " ON", r + " R"}, {even, ends, lefts, "L " + r + " B S", "L " + r + " L L"},
		} {
			b.check(t)
		}
	}
	for _, b := range []becomes{
		{levels, ends, lefts, "L ON", "L L"}, {levels, ends, lefts, "R L ON B PDI", "R L L L L"},
		{even, ends, right, "L ON", "L L"}, {odd, ends, right, "L ON", "L R"}, {odd, ends, right, "R L ON RLI", "R L R R"},
	} {
		b.check(t)
	}
}

// P11.1: neutral ones alone, with sos ahead and eos behind.
func TestNeutralAlone(t *testing.T) {
	for _, x := range [][3]string{{"ON", "L", "R"}, {"WS", "L", "R"}, {"B B", "L L", "R R"}, {"LRI ON PDI S", "L L L L", "R R R R"}} {
		for _, b := range []becomes{
			{levels, right, right, x[0], x[2]}, {levels, lefts, lefts, x[0], x[1]},
			{even, right, lefts, x[0], x[1]}, {odd, right, lefts, x[0], x[2]},
			{even, lefts, right, x[0], x[1]}, {odd, lefts, right, x[0], x[2]},
		} {
			b.check(t)
		}
	}
}

// P11.1: what is neither neutral nor has a side counts as having the level's: ahead, behind, and on both; it stays as it is.
func TestWithoutSide(t *testing.T) {
	for _, k := range sideless {
		x := show([]int{k})
		for _, b := range []becomes{
			{even, ends, ends, x + " ON " + x, x + " L " + x}, {odd, ends, ends, x + " ON " + x, x + " R " + x},
			{even, ends, ends, x + " ON L", x + " L L"}, {odd, ends, ends, x + " ON L", x + " R L"},
			{even, ends, ends, x + " ON R", x + " L R"}, {odd, ends, ends, x + " ON R", x + " R R"},
			{even, ends, ends, x + " ON EN", x + " L EN"}, {odd, ends, ends, x + " ON AN", x + " R AN"},
			{even, ends, ends, "L ON " + x, "L L " + x}, {odd, ends, ends, "L ON " + x, "L R " + x},
			{even, ends, ends, "R ON " + x, "R L " + x}, {odd, ends, ends, "R ON " + x, "R R " + x},
			{even, ends, ends, "AN ON " + x, "AN L " + x}, {odd, ends, ends, "EN ON " + x, "EN R " + x},
			{even, ends, ends, "ON " + x + " ON", "L " + x + " L"}, {odd, ends, ends, "ON " + x + " ON", "R " + x + " R"},
			{even, ends, ends, "R " + x + " ON R", "R " + x + " L R"}, {odd, ends, ends, "L ON " + x + " L", "L R " + x + " L"},
		} {
			b.check(t)
		}
	}
}

// P11.1: each neutral class becomes the same as all others, alone, first, last and among others.
func TestEachNeutral(t *testing.T) {
	for _, k := range neutrals {
		x := show([]int{k})
		for _, b := range []becomes{
			{levels, ends, ends, "R " + x + " R", "R R R"}, {levels, ends, ends, "L " + x + " L", "L L L"},
			{even, ends, ends, "R " + x + " L", "R L L"}, {odd, ends, ends, "L " + x + " R", "L R R"},
			{levels, ends, ends, "R " + x + " ON R", "R R R R"}, {levels, ends, ends, "EN ON " + x + " AN", "EN R R AN"}, {levels, ends, ends, "L ON " + x + " WS L", "L L L L L"},
			{levels, right, ends, x + " R", "R R"}, {levels, lefts, ends, x + " L", "L L"}, {levels, ends, right, "R " + x, "R R"}, {levels, ends, lefts, "L " + x, "L L"},
			{levels, right, right, x, "R"}, {levels, lefts, lefts, x, "L"},
		} {
			b.check(t)
		}
	}
	all := show(neutrals)
	becomes{levels, ends, ends, "R " + all + " EN", "R R R R R R R R R EN"}.check(t)
	becomes{levels, ends, ends, "L " + all + " L", "L L L L L L L L L L"}.check(t)
}

// P11.1: each group goes by what stands beside it alone.
func TestSeveralGroups(t *testing.T) {
	for _, b := range []becomes{
		{even, right, right, "ON L ON L WS R S R B", "L L L L L R R R R"}, {odd, right, right, "ON L ON L WS R S R B", "R L L L R R R R R"},
		{even, lefts, lefts, "ON L ON L WS R S R B", "L L L L L R R R L"}, {odd, lefts, lefts, "ON L ON L WS R S R B", "L L L L R R R R R"},
		{even, ends, ends, "R ON EN WS WS AN ON ON L", "R R EN R R AN L L L"}, {odd, ends, ends, "L ON AL ON NSM WS L PDI PDI PDI L", "L R AL R NSM R L L L L L"},
		// What has become something by then isn't ahead of another one: there is always one between that stays.
		{odd, ends, ends, "L ON L ON L ON R", "L L L L L R R"}, {even, ends, ends, "R B R B AL B R B EN", "R R R L AL L R R EN"},
	} {
		b.check(t)
	}
}

// P11.1: each sos and each eos, at either side, at each level.
func TestEachEnd(t *testing.T) {
	each := append(slices.Clone(classes), noClasses...)
	for _, level := range []int{0, 1, 124, 125} {
		for _, sos := range each {
			for _, eos := range each {
				for _, text := range []string{"ON", "ON L", "ON R", "L ON", "AN ON", "WS AL ON"} {
					a := asked{read(text), level, sos, eos}
					checkOf(t, a, a.all())
				}
			}
		}
	}
}

// P11.1: groups of very many, and very many groups, are gone through to the end.
func TestOfMany(t *testing.T) {
	for _, n := range []int{api.MaxText, 1 << 16} {
		many := slices.Repeat(read("ON"), n)
		for _, x := range []struct{ ahead, behind, want string }{{"R", "AN", "R"}, {"L", "L", "L"}, {"R", "L", "L"}, {"EN", "NSM", "L"}} {
			a := asked{slices.Concat(read(x.ahead), many, read(x.behind)), 0, api.L, api.L}
			if !slices.Equal(neutral.Of(a.l, a.level, a.sos, a.eos), slices.Concat(read(x.ahead), slices.Repeat(read(x.want), n), read(x.behind))) {
				t.Errorf("Of %d between %s and %s: not %s", n, x.ahead, x.behind, x.want)
			}
		}
		got := neutral.Of(slices.Repeat(read("R ON WS EN ON L S"), n), 1, api.L, api.R)
		if !slices.Equal(got, slices.Repeat(read("R R R EN R L R"), n)) {
			t.Errorf("Of %d times several groups: not as said", n)
		}
	}
}

// P11.1: Of every short list of all classes, and longer ones of those that say anything.
func TestOfShortLists(t *testing.T) {
	for _, alphabet := range []struct {
		of   []int
		most int
	}{{append(slices.Clone(classes), noClasses[:3]...), 3}, {read("L R EN AN AL ON"), 5}, {read("L R ON WS"), 6}, {read("L R NSM ON"), 6}, {read("R ON"), 9}} {
		for l := range sample.Every(alphabet.of, alphabet.most) {
			checkEnds(t, l, 0, 1)
		}
	}
}

// checkEnds: at levels, with each direction ahead and behind, as the chapter's words say.
func checkEnds(t *testing.T, l []int, levels ...int) {
	t.Helper()
	for _, level := range levels {
		for _, sos := range []int{api.L, api.R} {
			for _, eos := range []int{api.L, api.R} {
				a := asked{l, level, sos, eos}
				if !checkOf(t, a, a.all()) {
					t.FailNow()
				}
			}
		}
	}
}

// mixtures: what is often met in mixed lists.
var mixtures = []struct {
	common string
	often  int
}{{"L", 0}, {"ON WS B", 8}, {"L R EN AN ON", 10}, {"R ON", 30}, {"ON ON ON ON L R", 40}, {"AL NSM BN ON S", 10}}

// P11.1: Of mixed lists, at each level.
func TestOfMixedLists(t *testing.T) {
	n := 0
	for _, x := range mixtures {
		for l := range sample.Mixed(slices.Repeat(read(x.common), x.often), 600, 60) {
			checkEnds(t, l, even[n%len(even)], odd[n%len(odd)])
			a := asked{l, levels[n%len(levels)], lefts[n%len(lefts)], lefts[n/2%len(lefts)]}
			checkOf(t, a, a.all())
			n++
		}
	}
}

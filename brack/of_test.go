package brack_test

import (
	"slices"
	"strings"
	"testing"

	"ductus/api"
	"ductus/brack"
	"ductus/class"
	"ductus/sample"
	"ductus/weak"
)

func checkOf(t *testing.T, x list, level, sos int, want []int) bool {
	t.Helper()
	got := brack.Of(x.chars, x.classes, x.first, level, sos)
	if !slices.Equal(got, want) {
		t.Errorf("Of %v, at level %d, behind %d: %s, not %s", x, level, sos, show(got), show(want))
		return false
	}
	return true
}

// becomes: what becomes of a list, at levels of one direction, behind some.
type becomes struct {
	levels, ahead []int
	text, want    string
}

func (b becomes) check(t *testing.T) {
	t.Helper()
	x, want := parse(b.text), read(b.want)
	for _, level := range b.levels {
		for _, sos := range b.ahead {
			// One that fails is told once, not at all levels.
			if !checkOf(t, x, level, sos, want) {
				return
			}
		}
	}
}

// stays: nothing changes, whatever the level, and the direction ahead.
func stays(t *testing.T, text string) {
	t.Helper()
	becomes{levels, all, text, show(parse(text).classes)}.check(t)
}

var (
	right  = []int{api.R}
	all    = append(lefts(), api.R)
	levels = slices.Concat(even, odd)
)

// P10.1: the chapter's examples, with the characters that they are written with.
func TestExamples(t *testing.T) {
	for _, x := range []struct{ text, want string }{{"a ( b", "L WS ON WS L"}, {"a (b)", "L WS L L L"}} {
		var l list
		for _, c := range x.text {
			l.chars = append(l.chars, int(c))
		}
		l.classes = class.All(l.chars)
		l.first = l.classes
		for _, sos := range all {
			checkOf(t, l, 1, sos, read(x.want))
		}
	}
}

// P10.1: no list, and lists of unlike lengths: then the classes are the answer.
func TestOfUnlikeLengths(t *testing.T) {
	x := parse("( L ) L~")
	whole := read("L L L L")
	for i := range 5 {
		for j := range 5 {
			for k := range 5 {
				part := list{x.chars[:i], x.classes[:j], x.first[:k]}
				want := part.classes
				switch {
				case i != j || j != k:
				case i >= 3:
					want = whole[:i]
				}
				checkOf(t, part, 0, api.L, want)
			}
		}
	}
	more := func(l []int) []int { return append(slices.Clone(l), api.NSM) }
	checkOf(t, list{more(x.chars), x.classes, x.first}, 0, api.L, x.classes)
	checkOf(t, list{x.chars, more(x.classes), x.first}, 0, api.L, more(x.classes))
	checkOf(t, list{x.chars, x.classes, more(x.first)}, 0, api.L, x.classes)
	for _, level := range levels {
		for _, sos := range all {
			checkOf(t, list{}, level, sos, nil)
			checkOf(t, list{[]int{}, []int{}, []int{}}, level, sos, nil)
		}
	}
	checkOf(t, list{nil, x.classes, nil}, 0, api.L, x.classes)
	checkOf(t, list{x.chars, nil, x.first}, 0, api.L, nil)
	checkOf(t, list{x.chars, x.classes, nil}, 0, api.L, x.classes)
	checkOf(t, list{nil, x.classes, x.first}, 0, api.L, x.classes)
}

// P10.1: with the level's side between both, they become it, whatever stands ahead, and whatever else between.
func TestLevelsSideBetween(t *testing.T) {
	for _, ahead := range []string{"", "L ", "R ", "EN ", "AN ", "ON ", "R WS "} {
		for _, between := range []string{"L", "R L", "L R", "EN L", "L AN", "ON L ON", "R ON L ON R", "L L"} {
			becomes{even, all, ahead + "( " + between + " ) ON", ahead + "L " + between + " L ON"}.check(t)
		}
		for _, between := range []string{"R", "EN", "AN", "R L", "L R", "L EN", "AN L", "ON R ON", "WS EN", "L ON AN ON L", "EN AN"} {
			becomes{odd, all, ahead + "( " + between + " ) ON", ahead + "R " + between + " R ON"}.check(t)
		}
	}
}

// P10.1: with the other side alone between both, what stands ahead says what they become.
func TestOtherSideBetween(t *testing.T) {
	for _, other := range []string{"R", "EN", "AN", "ON R WS", "EN R AN", "AL R"} {
		pair, l, r := "( "+other+" )", "L "+other+" L", "R "+other+" R"
		for _, b := range []becomes{
			{even, right, pair, r}, {even, lefts(), pair, l},
			{even, right, "ON WS " + pair, "ON WS " + r}, {even, lefts(), "AL ON " + pair, "AL ON " + l},
			{even, all, "L " + pair, "L " + l}, {even, all, "R " + pair, "R " + r}, {even, all, "EN " + pair, "EN " + r}, {even, all, "AN " + pair, "AN " + r},
			{even, all, "R L " + pair, "R L " + l}, {even, all, "L R " + pair, "L R " + r}, {even, all, "R L ON AL " + pair, "R L ON AL " + l}, {even, all, "L EN WS 99 " + pair, "L EN WS 99 " + r},
			// What stands behind both says nothing.
			{even, lefts(), pair + " R", l + " R"}, {even, right, pair + " L", r + " L"}, {even, all, "L " + pair + " R", "L " + l + " R"}, {even, all, "AN " + pair + " L", "AN " + r + " L"},
		} {
			b.check(t)
		}
	}
	for _, b := range []becomes{
		{odd, right, "( L )", "R L R"}, {odd, lefts(), "( L )", "L L L"},
		{odd, right, "ON ( WS L ON )", "ON R WS L ON R"}, {odd, lefts(), "AL ( L )", "AL L L L"},
		{odd, all, "L ( L )", "L L L L"}, {odd, all, "R ( L )", "R R L R"}, {odd, all, "EN ( L )", "EN R L R"}, {odd, all, "AN ( L )", "AN R L R"},
		{odd, all, "R L ON ( L )", "R L ON L L L"}, {odd, all, "L AN WS ( L L )", "L AN WS R L L R"}, {odd, all, "L EN B ( L )", "L EN B R L R"},
		{odd, lefts(), "( L ) R", "L L L R"}, {odd, right, "( L ) L", "R L R L"},
	} {
		b.check(t)
	}
}

// P10.1: each class, and what is none, as the only one between both, and as the only one ahead.
func TestEachClassAsSide(t *testing.T) {
	for _, k := range slices.Concat(classes, noClasses) {
		item := show([]int{k})
		switch k {
		case api.L:
			becomes{even, all, "( L )", "L L L"}.check(t)
			becomes{even, all, "R L ( R )", "R L L R L"}.check(t)
		case api.R, api.EN, api.AN:
			becomes{odd, all, "( " + item + " )", "R " + item + " R"}.check(t)
			becomes{even, all, "L " + item + " ( R )", "L " + item + " R R R"}.check(t)
		default:
			stays(t, "R ( "+item+" ) L")
			becomes{even, all, "L " + item + " ( R )", "L " + item + " L R L"}.check(t)
			becomes{even, all, "R " + item + " ( R )", "R " + item + " R R R"}.check(t)
			becomes{odd, right, item + " ( L )", item + " R L R"}.check(t)
			becomes{odd, lefts(), item + " ( L )", item + " L L L"}.check(t)
		}
	}
}

// P10.1: nothing between both, nothing with a side, or no pair: nothing changes.
func TestNothingBetween(t *testing.T) {
	for _, text := range []string{"( )", "L ( ) L", "R ( ) R", "( ON WS ) AN", "EN ( AL NSM ) R", "( [ ] )", "L ( ON [ WS ] )", "( L", "L )", ") R (", "( L ]", "(:L L )", "( R ):R", "(:ON~ AL )", "L R EN AN ON 99 -7", "( ON ) L", "R ( ON )"} {
		stays(t, text)
	}
	stays(t, strings.Repeat("( ", 64)+"L R "+strings.Repeat(") ", 64))
}

// P10.1: a pair that has become something is a side for what comes behind its first place.
func TestPairsWithinPairs(t *testing.T) {
	for _, b := range []becomes{
		{even, all, "R ( [ R ] L )", "R L L R L L L"}, {odd, all, "L ( [ L ] R )", "L R R L R R R"}, {even, all, "AN ( [ EN ] L )", "AN L L EN L L L"},
		{even, all, "R ( [ R ] )", "R R R R R R"}, {even, all, "L ( [ R ] )", "L L L R L L"}, {even, right, "( [ EN ] )", "R R EN R R"}, {even, lefts(), "( [ EN ] )", "L L EN L L"},
		{even, lefts(), "( R [ R ] )", "L R R R R L"}, {odd, right, "( L [ L ] )", "R L L L L R"}, {even, right, "( L [ R ] )", "L L L R L L"},
		{even, all, "R ( { [ R ] } L )", "R L L L R L L L L"}, {even, all, "R ( { [ R ] L } )", "R L L L R L L L L"}, {even, all, "R ( ON { R [ L ] } )", "R L ON L R L L L L L"},
		{even, all, "( [ ] L )", "L ON ON L L"}, {even, lefts(), "( [ ] R )", "L ON ON R L"}, {odd, all, "( [ ON ] EN )", "R ON ON ON EN R"},
		{even, all, "( [ ) L ]", "ON ON ON L ON"}, {even, all, "( L [ ) R ]", "L L ON L R ON"},
	} {
		b.check(t)
	}
}

// P10.1: a pair that has become something is a side for the one behind it; one that has stayed isn't.
func TestPairsBehindPairs(t *testing.T) {
	for _, b := range []becomes{
		{even, all, "R ( L R ) [ R ]", "R L L R L L R L"}, {odd, all, "L ( R L ) [ L ]", "L R R L R R L R"},
		{even, all, "R ( L R ) ON [ AN ]", "R L L R L ON L AN L"}, {even, all, "( R L ) [ R ] { EN }", "L R L L L R L L EN L"},
		{even, all, "L ( R ) [ R ]", "L L R L L R L"}, {even, all, "R ( R ) [ R ] { R }", "R R R R R R R R R R"},
		{even, all, "R ( ) [ R ]", "R ON ON R R R"}, {odd, all, "L ( ON ) [ L ]", "L ON ON ON L L L"},
		{even, right, "( ) [ R ]", "ON ON R R R"}, {even, lefts(), "( ) [ R ]", "ON ON L R L"},
		{even, all, "( L ) [ ON ] { R }", "L L L ON ON ON L R L"}, {odd, all, "L ( L ) R [ L ]", "L L L L R R L R"},
		{even, all, "R (:ON L R ):ON [ R ]", "R L L R L L R L"},
	} {
		b.check(t)
	}
}

// P10.1: those right behind either bracket that were NSM at first become what it does, whatever they are now.
func TestMarks(t *testing.T) {
	for _, b := range []becomes{
		{even, all, "( ON~ L )", "L L L L"}, {even, all, "( L ) ON~", "L L L L"}, {odd, all, "( R ) ON~ ON", "R R R R ON"}, {odd, all, "( ON~ EN )", "R R EN R"},
		{even, all, "( ON~ ON~ ON~ L ) ON~ ON~", "L L L L L L L L"}, {odd, all, "( ON~ ON~ R ) ON~ ON~ ON~ L", "R R R R R R R R L"},
		{even, all, "( WS~ EN~ L ) R~ 99~ B~ NSM~ AL~", "L L L L L L L L L L"}, {odd, all, "( L~ R ) L~ AN~ 77~", "R R R R R R R"},
		{even, all, "( L ON~ )", "L L ON L"}, {even, all, "( WS ON~ L ) ON ON~", "L WS ON L L ON ON"}, {even, all, "ON~ ( L R~ ) WS R~ ON~", "ON L L R L WS R ON"},
		{even, all, "( ON~ ON ON~ L ) ON~ L ON~", "L L ON ON L L L L ON"}, {odd, all, "( EN ) ON~ ON ON~", "R EN R R ON ON"},
		{even, lefts(), "( ON~ R ) ON~", "L L R L L"}, {even, right, "( ON~ R ) ON~", "R R R R R"},
		{even, all, "R ( ON~ R ) ON~", "R R R R R R"}, {even, all, "AN ( ON~ R ) ON~", "AN R R R R R"}, {odd, all, "L ( ON~ L ) ON~", "L L L L L L"},
		{even, all, "( ON~ [ ON~ L ] ON~ ) ON~", "L L L L L L L L L"}, {even, all, "( L ) ON~ [ ON~ ] ON~", "L L L L ON ON ON ON"},
	} {
		b.check(t)
	}
	for _, n := range []int{1, 2, 63, 1000} {
		marks, l := strings.Repeat("ON~ ", n), strings.Repeat("L ", n)
		becomes{[]int{0}, right, "( " + marks + "L ) " + marks, "L " + l + "L L " + l}.check(t)
		becomes{[]int{0}, right, "( " + marks + "L ) " + marks + "WS " + marks, "L " + l + "L L " + l + "WS" + strings.Repeat(" ON", n)}.check(t)
	}
}

// P10.1: marks of brackets that stay, stay; so do those of brackets that are of no pair.
func TestMarksThatStay(t *testing.T) {
	for _, text := range []string{"( ON~ ) ON~", "R ( ON~ WS ) ON~ ON~ L", "( ON~ L", "L ) ON~ ON~", "( ON~ L ] ON~", "(:L ON~ L ):L ON~", "L ON~ R ON~ ON ON~"} {
		stays(t, text)
	}
	becomes{even, all, "( [ ON~ L ) ON~", "L ON ON L L L"}.check(t)
	becomes{even, all, "( [ ON~ ] ON~ L ) ON~", "L ON ON ON ON L L L"}.check(t)
	becomes{even, all, "( ON~ ) ON~ [ ON~ L ]", "ON ON ON ON L L L L"}.check(t)
}

// P10.1: of what is between both, and ahead of a pair, marks count as they are by then.
func TestMarksAsSides(t *testing.T) {
	for _, b := range []becomes{
		{even, all, "( L~ )", "L L L"}, {even, right, "( R~ )", "R R R"}, {even, lefts(), "( R~ )", "L L L"},
		{odd, all, "( R ) L~ [ L ]", "R R R R R L R"}, {even, all, "( L ) R~ [ R ]", "L L L L L R L"},
		{even, all, "( L R~ ) ON [ R ]", "L L R L ON L R L"}, {even, all, "( L ) WS R~ [ R ]", "L L L WS R R R R"},
	} {
		b.check(t)
	}
}

// P10.1: a bracket that was NSM at first is a mark, too, also where it has become something with its own pair by then.
func TestBracketsThatWereMarks(t *testing.T) {
	for _, b := range []becomes{
		{even, all, "( [~ ] L )", "L L ON L L"}, {even, all, "( [~ ON~ ] L )", "L L L L L L"}, {even, all, "( L )~ ON~", "L L L L"},
		{even, lefts(), "( R [ R ] )~", "L R R R R R"}, {even, all, "( L ) [~", "L L L L"}, {even, all, "( L ) ]~ ON~ ON", "L L L L L ON"},
	} {
		b.check(t)
	}
}

// P10.1: of what they were at first only NSM says anything; that they are NSM now says nothing.
func TestFirst(t *testing.T) {
	x := parse("L ( NSM NSM L ) NSM [ R ] NSM")
	for _, k := range append(slices.Clone(classes), noClasses...) {
		x.first = slices.Repeat([]int{k}, len(x.chars))
		want := read("L L NSM NSM L L NSM L R L NSM")
		if k == api.NSM {
			// All that stands behind the first bracket is its mark, and each other one's.
			want = read("L L L L L L L L L L L")
		}
		checkOf(t, x, 0, api.R, want)
	}
}

// P10.1: with layer 9's classes of what is handed in: those of a text with marks.
func TestBehindWeak(t *testing.T) {
	for _, x := range []struct {
		chars      []int
		level, sos int
		want       string
	}{
		{[]int{'a', '(', 'b', ')', 0x301, 0x302}, 0, api.L, "L L L L L L"},
		{[]int{'a', '(', 0x301, 0x5d0, ')', 0x301}, 1, api.L, "L R R R R R"},
		{[]int{0x5d0, '(', '5', ')', 0x301, '!'}, 0, api.R, "R R EN R R ON"},
		{[]int{'a', '(', '5', ')', 0x301, '!'}, 0, api.L, "L L L L L ON"},
		{[]int{'(', ' ', 0x301, ')', 0x301}, 0, api.L, "ON WS WS ON ON"},
		{[]int{0x2329, 0x627, 0x3009, 0x301}, 0, api.R, "R R R R"},
	} {
		first := class.All(x.chars)
		checkOf(t, list{x.chars, weak.Of(first, x.sos), first}, x.level, x.sos, read(x.want))
	}
}

// P10.1: where one more would wait it is ended: pairs ahead of it become something, those behind don't.
func TestOfManyThatWait(t *testing.T) {
	for n, want := range map[int]int{62: api.L, 63: api.L, 64: api.ON} {
		x := parse("( L ) WS " + strings.Repeat("( ", n) + "L " + strings.Repeat(") ", n))
		brackets := slices.Repeat([]int{want}, n)
		checkOf(t, x, 0, api.R, slices.Concat(read("L L L WS"), brackets, read("L"), brackets))
	}
}

// P10.1: very long lists are gone through to the end.
func TestOfMany(t *testing.T) {
	for _, n := range []int{api.MaxText, 1 << 15} {
		x := parse(strings.Repeat("ON ( ON~ R ) ON~ ", n))
		checkOf(t, x, 0, api.R, slices.Repeat(read("ON R R R R R"), n))
		checkOf(t, x, 0, api.L, slices.Repeat(read("ON L L R L L"), n))
		x = parse("( " + strings.Repeat("[ ] ", n) + "R )")
		checkOf(t, x, 0, api.R, slices.Concat(read("R"), slices.Repeat(read("ON ON"), n), read("R R")))
	}
}

// P10.1: Of every short list.
func TestOfLists(t *testing.T) {
	for _, alphabet := range []struct {
		text string
		most int
	}{{"( ) L R", 6}, {"( ) [ ] L R", 6}, {"( ) [ R ON~ L", 6}, {"( ) [ ] L~ R EN ON~", 5}, {everyItem, 3}, {"(~ )~ ( ) R L~", 5}} {
		items := parse(alphabet.text)
		for places := range sample.Every(numbers(len(items.chars)), alphabet.most) {
			for _, sos := range []int{api.L, api.R} {
				x := items.chosen(places)
				checkOf(t, x, 0, sos, x.of(0, sos))
				checkOf(t, x, 1, sos, x.of(1, sos))
			}
		}
	}
}

// Each bracket, some that are of other classes, each side, and what has none, some of them NSM at first.
const everyItem = everyBracket + " L R EN AN AL B LRI ON~ L~ R~ WS~ 99~"

// Of mixed lists these are the characters.
var mixtures = []string{everyItem, "( ( [ [ ) ) ] ] R R EN ON ON~ L", "( ( ( ( [ ) ) ) R ON ON ON ON ON ON", "( ) [ ] L L ON ON AN ON~", "( ) [ ] L~ R~ ON~ (~ ]~ ON R L"}

// P10.1: Of mixed lists, at each level, behind each direction.
func TestOfMixedLists(t *testing.T) {
	for _, text := range mixtures {
		items := parse(text)
		n := 0
		for places := range sample.MixedOf(numbers(len(items.chars)), 1000, 120) {
			x := items.chosen(places)
			level, sos := levels[n%len(levels)], all[n/2%len(all)]
			checkOf(t, x, level, sos, x.of(level, sos))
			checkOf(t, x, level, api.R, x.of(level, api.R))
			n++
		}
	}
}

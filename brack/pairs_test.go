package brack_test

import (
	"math"
	"slices"
	"strings"
	"testing"

	"ductus/api"
	"ductus/brack"
	"ductus/sample"
)

func checkPairs(t *testing.T, x list, want [][2]int) {
	t.Helper()
	if got := brack.Pairs(x.chars, x.classes); !slices.Equal(got, want) {
		t.Errorf("Pairs of %v: %d, not %d", x, got, want)
	}
}

// checkTold: pairs that are told in full, each by its two places.
func checkTold(t *testing.T, text string, places ...int) {
	t.Helper()
	var want [][2]int
	for both := range slices.Chunk(places, 2) {
		want = append(want, [2]int{both[0], both[1]})
	}
	checkPairs(t, parse(text), want)
}

// nested: so many pairs, one within the other, of which the first begins at a place, and the last ends right ahead of another one.
func nested(from, many, to int) [][2]int {
	var out [][2]int
	for i := range many {
		out = append(out, [2]int{from + i, to - 1 - i})
	}
	return out
}

// P10.1: Pairs at no characters.
func TestPairsOfNothing(t *testing.T) {
	for _, chars := range [][]int{nil, {}} {
		for _, l := range [][]int{nil, {}} {
			checkPairs(t, list{chars: chars, classes: l}, nil)
		}
	}
}

// P10.1: nothing is told where there are more, or fewer, classes than characters.
func TestPairsOfUnlikeLengths(t *testing.T) {
	chars := parse("( ) [ ( ) ]").chars
	for n := range 3 * len(chars) {
		want := [][2]int(nil)
		if n == len(chars) {
			want = [][2]int{{0, 1}, {2, 5}, {3, 4}}
		}
		checkPairs(t, list{chars: chars, classes: slices.Repeat([]int{api.ON}, n)}, want)
	}
	checkPairs(t, list{chars: chars}, nil)
	checkPairs(t, list{chars: chars, classes: []int{}}, nil)
	checkPairs(t, list{classes: []int{api.ON}}, nil)
}

// P10.1: each bracket of layer 3 alone, and with each one that closes, and that opens; told by what stands there.
func TestPairsOfEachTwo(t *testing.T) {
	two := func(a, b int) list {
		return list{chars: []int{a, b}, classes: []int{api.ON, api.ON}}
	}
	for i, a := range couples {
		for _, c := range a {
			checkPairs(t, list{chars: []int{c}, classes: []int{api.ON}}, nil)
		}
		for j, b := range couples {
			var want [][2]int
			// Of the nine the fourth and the fifth are the same in two ways.
			if i == j || i == 3 && j == 4 || i == 4 && j == 3 {
				want = [][2]int{{0, 1}}
			}
			checkPairs(t, two(a[0], b[1]), want)
			checkPairs(t, two(a[0], b[0]), nil)
			checkPairs(t, two(a[1], b[0]), nil)
			checkPairs(t, two(a[1], b[1]), nil)
		}
	}
}

// P10.1: the two that are the same in two ways, told in full.
func TestPairsInTwoWays(t *testing.T) {
	checkTold(t, "\u2329 \u232a", 0, 1)
	checkTold(t, "\u2329 \u3009", 0, 1)
	checkTold(t, "\u3008 \u232a", 0, 1)
	checkTold(t, "\u3008 \u3009", 0, 1)
	checkTold(t, "\u2329 \u3008 \u232a \u3009", 0, 3, 1, 2)
	checkTold(t, "\u3008 \u2329 \u232a \u232a", 0, 3, 1, 2)
	checkTold(t, "\u3008 \u2329 \u3009", 1, 2)
	checkTold(t, "\u2329 \u3008 \u232a", 1, 2)
	checkTold(t, "\u2329 \u300a \u3009", 0, 2)
	checkTold(t, "\u2329 \u300b")
	checkTold(t, "\u300a \u3009")
	checkTold(t, "\u300a \u232a")
	checkTold(t, "( \u232a")
	checkTold(t, "\u2329 )")
}

// P10.1: what is no bracket waits for nothing and closes nothing, though it be mirrored, or a bracket in fewer bits.
func TestPairsOfWhatIsNoBracket(t *testing.T) {
	for _, both := range append([][2]int{{'<', '>'}, {0xab, 0xbb}, {0x2264, 0x2265}, {0x226a, 0x226b}, {'a', 'b'}, {0, 0}, {'/', '\\'}, {0x2018, 0x2019}, {0x2039, 0x203a}, {0x3014, 0x3015}}, strange()...) {
		l := slices.Repeat([]int{api.ON}, 4)
		checkPairs(t, list{chars: both[:], classes: l[:2]}, nil)
		checkPairs(t, list{chars: []int{'(', both[0], both[1], ')'}, classes: l}, [][2]int{{0, 3}})
		checkPairs(t, list{chars: []int{both[0], '(', ')', both[1]}, classes: l}, [][2]int{{1, 2}})
		checkPairs(t, list{chars: []int{'(', both[1]}, classes: l[:2]}, nil)
		checkPairs(t, list{chars: []int{both[0], ')'}, classes: l[:2]}, nil)
	}
}

// strange: numbers that are brackets but for some bits, or the sign.
func strange() [][2]int {
	var out [][2]int
	for _, both := range couples {
		for _, away := range []int{1 << 16, 1 << 21, 1 << 31, 1 << 32, 1 << 62, -1 << 16, -1 << 32, math.MinInt} {
			out = append(out, [2]int{both[0] + away, both[1] + away})
		}
		out = append(out, [2]int{-both[0], -both[1]}, [2]int{^both[0], ^both[1]})
	}
	return out
}

// P10.1: brackets that are ON, and that are of each other class, or of what is none.
func TestPairsByClass(t *testing.T) {
	for _, k := range append(slices.Clone(classes), noClasses...) {
		ask := func(chars []int, l ...int) [][2]int { return brack.Pairs(chars, l) }
		two, four := []int{'(', ')'}, []int{'(', '(', ')', ')'}
		on := k == api.ON
		for _, x := range []struct{ got, other, ordinary [][2]int }{
			{ask(two, k, api.ON), nil, [][2]int{{0, 1}}},
			{ask(two, api.ON, k), nil, [][2]int{{0, 1}}},
			{ask(two, k, k), nil, [][2]int{{0, 1}}},
			{ask(four, api.ON, k, api.ON, api.ON), [][2]int{{0, 2}}, [][2]int{{0, 3}, {1, 2}}},
			{ask(four, k, api.ON, api.ON, api.ON), [][2]int{{1, 2}}, [][2]int{{0, 3}, {1, 2}}},
			{ask(four, api.ON, api.ON, k, api.ON), [][2]int{{1, 3}}, [][2]int{{0, 3}, {1, 2}}},
			{ask(four, api.ON, api.ON, api.ON, k), [][2]int{{1, 2}}, [][2]int{{0, 3}, {1, 2}}},
			{ask(four, api.ON, k, k, api.ON), [][2]int{{0, 3}}, [][2]int{{0, 3}, {1, 2}}},
		} {
			want := x.other
			if on {
				want = x.ordinary
			}
			if !slices.Equal(x.got, want) {
				t.Errorf("brackets of class %d: %d, not %d", k, x.got, want)
			}
		}
	}
}

// P10.1: one that closes where none waits, or none of those that wait, or one behind which others wait; one bracket twice.
func TestPairsThatAreTold(t *testing.T) {
	checkTold(t, ")")
	checkTold(t, ") (")
	checkTold(t, "L ) L")
	checkTold(t, ") ( )", 1, 2)
	checkTold(t, "( ) )", 0, 1)
	checkTold(t, "( ]")
	checkTold(t, "( ] )", 0, 2)
	checkTold(t, "( [ } ] )", 0, 4, 1, 3)
	checkTold(t, "( } [ } ) ]", 0, 4)
	checkTold(t, "( [ )", 0, 2)
	checkTold(t, "( [ ) ]", 0, 2)
	checkTold(t, "( [ { )", 0, 3)
	checkTold(t, "( [ { ) } ] )", 0, 3)
	checkTold(t, "{ ( [ ) ] }", 0, 5, 1, 3)
	checkTold(t, "[ ( [ ) ]", 0, 4, 1, 3)
	checkTold(t, "( ( [ ) ] )", 0, 5, 1, 3)
	checkTold(t, "( ( )", 1, 2)
	checkTold(t, "( ( ) )", 0, 3, 1, 2)
	checkTold(t, "( ( ) ( ) )", 0, 5, 1, 2, 3, 4)
	checkTold(t, "( ) ( )", 0, 1, 2, 3)
	checkTold(t, "( ( [ ( ) )", 1, 5, 3, 4)
	checkTold(t, "L ( R ON ) EN [ WS ]", 1, 4, 6, 8)
	checkTold(t, "( [ ] { } ) [ ]", 0, 5, 1, 2, 3, 4, 6, 7)
	checkTold(t, "( B ) [ LRI ( PDI ] )", 0, 2, 3, 7)
}

// P10.1: pairs come by their first places, in whatever order they are closed.
func TestPairsByFirstPlaces(t *testing.T) {
	for _, n := range []int{1, 2, 7, 62, 63} {
		opens, closes := strings.Repeat("( ", n), strings.Repeat(") ", n)
		checkPairs(t, parse(opens+closes), nested(0, n, 2*n))
		checkPairs(t, parse("L "+opens+"R "+closes+"[ L ]"), append(nested(1, n, 2*n+2), [2]int{2*n + 2, 2*n + 4}))
		checkPairs(t, parse(strings.Repeat("[ ( ) ] ", n)), twos(n))
	}
}

// twos: so many times two, one within the other.
func twos(n int) [][2]int {
	var out [][2]int
	for i := range n {
		out = append(out, nested(4*i, 2, 4*i+4)...)
	}
	return out
}

// P10.1: as many as may wait, one fewer, and one more.
func TestPairsThatWait(t *testing.T) {
	for _, c := range couples {
		for n, want := range map[int]int{1: 1, 61: 61, 62: 62, 63: 63, 64: 0, 65: 0, 127: 0, 128: 0, 1000: 0} {
			chars := slices.Concat(slices.Repeat([]int{c[0]}, n), slices.Repeat([]int{c[1]}, n))
			checkPairs(t, list{chars: chars, classes: slices.Repeat([]int{api.ON}, 2*n)}, nested(0, want, 2*n))
		}
	}
}

// P10.1: where one more would wait it is ended: what was a pair by then is one, and what comes behind isn't.
func TestPairsAheadOfTheEnd(t *testing.T) {
	open, shut := func(n int) string { return strings.Repeat("( ", n) }, func(n int) string { return strings.Repeat(") ", n) }
	for _, x := range []struct {
		text string
		want [][2]int
	}{
		{"[ ] " + open(64) + shut(64), [][2]int{{0, 1}}},
		{"[ ] " + open(63) + shut(63), append([][2]int{{0, 1}}, nested(2, 63, 128)...)},
		{"{ } L [ R ] " + open(64) + shut(64) + "[ ]", [][2]int{{0, 1}, {3, 5}}},
		// What waits ahead counts, too.
		{"[ " + open(63) + shut(63) + "]", nil},
		{"[ " + open(62) + shut(62) + "]", nested(0, 63, 126)},
		{"{ [ ] " + open(63) + shut(63) + "}", [][2]int{{1, 2}}},
		{"{ [ ( ) ] " + open(62) + shut(62) + "}", append([][2]int{{0, 129}, {1, 4}, {2, 3}}, nested(5, 62, 129)...)},
		// Any bracket that opens ends it, not the one that waits alone.
		{open(63) + "[ " + shut(63), nil},
		{open(63) + "\u2329 " + shut(63), nil},
		{open(63) + ") [ " + shut(62), append(nested(0, 62, 127), [2]int{62, 63})},
		{open(63) + ") [ [ " + shut(62), [][2]int{{62, 63}}},
		{open(63) + ") [ ] " + shut(62), append(nested(0, 62, 128), [][2]int{{62, 63}, {64, 65}}...)},
		// None that isn't ON, that isn't a bracket, or that closes ends it.
		{open(63) + "(:L (:R (:NSM ON L " + shut(63), nested(0, 63, 131)},
		{open(63) + "] } " + shut(63), nested(0, 63, 128)},
		{open(63) + shut(64), nested(0, 63, 126)},
		// Behind it nothing is looked at any more.
		{open(64) + "[ ] { }", nil},
		{open(63) + "( ) " + shut(63), nil},
		{open(63) + ") ( ( " + shut(64), [][2]int{{62, 63}}},
	} {
		checkPairs(t, parse(x.text), x.want)
	}
}

// P10.1: some of those that wait are closed in between, so that others may.
func TestPairsClosedInBetween(t *testing.T) {
	open, shut := func(n int) string { return strings.Repeat("( ", n) }, func(n int) string { return strings.Repeat(") ", n) }
	got := func(text string) [][2]int {
		x := parse(text)
		return brack.Pairs(x.chars, x.classes)
	}
	for n := 1; n <= 63; n++ {
		if many := len(got(open(63) + shut(n) + open(n) + shut(63))); many != 63+n {
			t.Errorf("%d closed in between: %d pairs, not %d", n, many, 63+n)
		}
		if many := len(got(open(63) + shut(n) + open(n+1) + shut(64))); many != n {
			t.Errorf("%d closed in between, and one more: %d pairs, not %d", n, many, n)
		}
		// All that waits behind one that is closed waits no more.
		behind := strings.Repeat("( ", n-1)
		if many := len(got(open(63-n) + "[ " + behind + "] " + open(n) + shut(63))); many != 64 {
			t.Errorf("one closed behind which %d wait: %d pairs, not %d", n-1, many, 64)
		}
		if many := len(got(open(63-n) + "[ " + behind + "] " + open(n+1) + shut(63))); many != 1 {
			t.Errorf("one closed behind which %d wait, and one more: %d pairs, not %d", n-1, many, 1)
		}
	}
}

// P10.1: Pairs of every short list, and of mixed ones.
func TestPairsOfLists(t *testing.T) {
	check := func(x list) { checkPairs(t, x, x.pairs()) }
	for _, alphabet := range []struct {
		text string
		most int
	}{{"( ) [ ]", 8}, {"( ) [ ] { } \u2329 \u3009", 5}, {"\u2329 \u232a \u3008 \u3009 (", 6}, {"( ) (:L ):R ON ]", 6}} {
		items := parse(alphabet.text)
		for places := range sample.Every(numbers(len(items.chars)), alphabet.most) {
			check(items.chosen(places))
		}
	}
	for _, text := range []string{everyBracket, "( ( ( [ ) ]", "( ( [ L )", "( ( ( ( ( [ )"} {
		items := parse(text)
		for places := range sample.MixedOf(numbers(len(items.chars)), 400, 300) {
			check(items.chosen(places))
		}
	}
}

// Each bracket, and some that are of other classes.
const everyBracket = "( ) [ ] { } \u2329 \u232a \u3008 \u3009 \u300a \u300b \u300c \u300d \u300e \u300f \u3010 \u3011 (:L ):EN ON NSM 99"

func numbers(n int) []int {
	var out []int
	for i := range n {
		out = append(out, i)
	}
	return out
}

// P10.1: very many are gone through to the end.
func TestPairsOfMany(t *testing.T) {
	for _, n := range []int{api.MaxText, api.MaxText + 1, 1 << 17} {
		x := list{chars: slices.Repeat([]int{'(', ')'}, n), classes: slices.Repeat([]int{api.ON}, 2*n)}
		got := brack.Pairs(x.chars, x.classes)
		if len(got) != n || got[0] != [2]int{0, 1} || got[n-1] != [2]int{2*n - 2, 2*n - 1} {
			t.Errorf("%d pairs, not %d", len(got), n)
		}
		x.chars = slices.Repeat([]int{'('}, 2*n)
		checkPairs(t, x, nil)
		x.chars = slices.Repeat([]int{')'}, 2*n)
		checkPairs(t, x, nil)
	}
}

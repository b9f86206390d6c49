package weak_test

import (
	"math"
	"slices"
	"testing"

	"ductus/api"
	"ductus/sample"
	"ductus/weak"
)

func checkOf(t *testing.T, l []int, sos int, want []int) {
	t.Helper()
	if got := weak.Of(l, sos); !slices.Equal(got, want) {
		t.Errorf("Of %s, behind %d: %s, not %s", show(l), sos, show(got), show(want))
	}
}

func checkRule(t *testing.T, l []int, sos, n int, want []int) {
	t.Helper()
	if got := weak.Rule(l, sos, n); !slices.Equal(got, want) {
		t.Errorf("Rule %d of %s, behind %d: %s, not %s", n, show(l), sos, show(got), show(want))
	}
}

func checkStrong(t *testing.T, l []int, i, sos, want int) {
	t.Helper()
	if got := weak.Strong(l, i, sos); got != want {
		t.Errorf("Strong of %s, behind %d, at %d: %d, not %d", show(l), sos, i, got, want)
	}
}

// side: the direction that counts, R or else L.
func side(sos int) int {
	if sos == api.R {
		return api.R
	}
	return api.L
}

// said: what becomes of a list behind a direction.
type said struct {
	sos     string
	l, want string
}

// check: by one rule.
func (s said) check(t *testing.T, n int) {
	t.Helper()
	checkRule(t, read(s.l), read(s.sos)[0], n, read(s.want))
}

// checkAll: by one rule behind each direction.
func checkAll(t *testing.T, n int, list, want string) {
	t.Helper()
	for _, sos := range ahead {
		checkRule(t, read(list), sos, n, read(want))
	}
}

// P9.1: the chapter's example.
func TestExample(t *testing.T) {
	for _, sos := range ahead {
		checkOf(t, read("AL EN"), sos, read("R AN"))
	}
}

// P9.1: all calls at an empty list.
func TestEmpty(t *testing.T) {
	for _, l := range [][]int{nil, {}} {
		for _, sos := range ahead {
			checkOf(t, l, sos, nil)
			for n := 1; n <= 7; n++ {
				checkRule(t, l, sos, n, nil)
			}
			for _, n := range noRules {
				checkRule(t, l, sos, n, nil)
				checkStrong(t, l, n, sos, side(sos))
			}
		}
	}
}

// P9.1: all calls at each class alone, and at what is none, behind each direction; told in full, this hangs on no oracle.
func TestEachAlone(t *testing.T) {
	for _, sos := range ahead {
		for _, k := range ahead {
			counts := k
			if k < 0 || k > api.PDI {
				counts = api.L
			}
			rules := slices.Repeat([]int{counts}, 8)
			whole := counts
			switch counts {
			case api.NSM:
				rules[1], whole = side(sos), side(sos)
			case api.AL:
				rules[3], whole = api.R, api.R
			case api.ES, api.ET, api.CS:
				rules[6], whole = api.ON, api.ON
			case api.EN:
				if sos != api.R {
					rules[7], whole = api.L, api.L
				}
			}
			checkOf(t, []int{k}, sos, []int{whole})
			for n := range rules {
				checkRule(t, []int{k}, sos, n, rules[n:n+1])
			}
			for _, n := range noRules {
				checkRule(t, []int{k}, sos, n, []int{counts})
			}
			last := side(sos)
			if counts == api.L || counts == api.R || counts == api.AL {
				last = counts
			}
			for i, want := range map[int]int{-1: side(sos), 0: side(sos), 1: last, 2: side(sos)} {
				checkStrong(t, []int{k}, i, sos, want)
			}
		}
	}
}

// P9.1: a list of all classes by each rule, and by none.
func TestAllTogether(t *testing.T) {
	l := "NSM EN L R AL EN ES ET AN CS NSM BN B S WS ON LRE LRO RLE RLO PDF LRI RLI FSI PDI NSM 99"
	plain := "NSM EN L R AL EN ES ET AN CS NSM BN B S WS ON LRE LRO RLE RLO PDF LRI RLI FSI PDI NSM L"
	for n, want := range []string{
		plain,
		"R EN L R AL EN ES ET AN CS CS BN B S WS ON LRE LRO RLE RLO PDF LRI RLI FSI PDI ON L",
		"NSM EN L R AL AN ES ET AN CS NSM BN B S WS ON LRE LRO RLE RLO PDF LRI RLI FSI PDI NSM L",
		"NSM EN L R R EN ES ET AN CS NSM BN B S WS ON LRE LRO RLE RLO PDF LRI RLI FSI PDI NSM L",
		plain,
		plain,
		"NSM EN L R AL EN ON ON AN ON NSM BN B S WS ON LRE LRO RLE RLO PDF LRI RLI FSI PDI NSM L",
		plain,
		plain,
	} {
		checkRule(t, read(l), api.R, n, read(want))
	}
	checkRule(t, read(l), api.L, 1, read("L EN L R AL EN ES ET AN CS CS BN B S WS ON LRE LRO RLE RLO PDF LRI RLI FSI PDI ON L"))
	checkRule(t, read(l), api.L, 7, read("NSM L L R AL EN ES ET AN CS NSM BN B S WS ON LRE LRO RLE RLO PDF LRI RLI FSI PDI NSM L"))
	for _, n := range noRules {
		checkRule(t, read(l), api.R, n, read(plain))
		checkRule(t, read(l), api.L, n, read(plain))
	}
	checkOf(t, read(l), api.R, read("R EN L R R AN ON ON AN ON ON BN B S WS ON LRE LRO RLE RLO PDF LRI RLI FSI PDI ON L"))
	checkOf(t, read(l), api.L, read("L L L R R AN ON ON AN ON ON BN B S WS ON LRE LRO RLE RLO PDF LRI RLI FSI PDI ON L"))
}

// P9.1: rule 1: an NSM that is the first one, behind each direction.
func TestMarkFirst(t *testing.T) {
	for _, sos := range ahead {
		want := side(sos)
		checkRule(t, read("NSM"), sos, 1, []int{want})
		checkRule(t, read("NSM NSM NSM AN NSM"), sos, 1, []int{want, want, want, api.AN, api.AN})
		checkRule(t, read("NSM LRI NSM"), sos, 1, []int{want, api.LRI, api.ON})
		checkOf(t, read("NSM WS"), sos, []int{want, api.WS})
	}
}

// P9.1: rule 1: an NSM behind each class, one, and several behind one another.
func TestMarkBehindEach(t *testing.T) {
	for k := range 23 {
		want := k
		switch k {
		case api.NSM:
			want = api.R
		case api.LRI, api.RLI, api.FSI, api.PDI:
			want = api.ON
		}
		first := k
		if k == api.NSM {
			first = api.R
		}
		checkRule(t, []int{k, api.NSM}, api.R, 1, []int{first, want})
		checkRule(t, []int{k, api.NSM, api.NSM, api.NSM}, api.R, 1, []int{first, want, want, want})
		checkRule(t, []int{api.L, k, api.NSM, api.AL}, api.R, 1, []int{api.L, markedBehindL(k, first), markedBehindL(k, want), api.AL})
	}
	for _, k := range noClasses {
		checkRule(t, []int{k, api.NSM, api.NSM}, api.R, 1, []int{api.L, api.L, api.L})
		checkRule(t, []int{api.R, k, api.NSM}, api.R, 1, []int{api.R, api.L, api.L})
	}
}

// markedBehindL: an NSM behind an L is L, all else as it is.
func markedBehindL(k, want int) int {
	if k == api.NSM {
		return api.L
	}
	return want
}

// P9.1: rule 1: an NSM behind what the rule itself has made, isolates, and what is left out.
func TestMarks(t *testing.T) {
	for _, s := range []said{
		{"L", "AL NSM NSM", "AL AL AL"}, {"R", "NSM", "R"}, {"L", "LRI NSM", "LRI ON"}, {"L", "PDI NSM", "PDI ON"}, {"R", "RLI NSM", "RLI ON"}, {"R", "FSI NSM", "FSI ON"},
		{"R", "LRI NSM NSM NSM", "LRI ON ON ON"}, {"R", "PDI NSM ON NSM", "PDI ON ON ON"}, {"R", "PDI NSM EN NSM NSM", "PDI ON EN EN EN"},
		{"R", "RLI PDI NSM L NSM", "RLI PDI ON L L"}, {"R", "FSI NSM PDI NSM AN NSM", "FSI ON PDI ON AN AN"}, {"L", "NSM RLI NSM R NSM PDI NSM", "L RLI ON R R PDI ON"},
		// What is left out is no isolate.
		{"R", "BN NSM", "BN BN"}, {"R", "LRE NSM NSM", "LRE LRE LRE"}, {"L", "RLO NSM PDF NSM", "RLO RLO PDF PDF"}, {"R", "LRI BN NSM", "LRI BN BN"}, {"R", "PDI PDF NSM NSM", "PDI PDF PDF PDF"}, {"R", "LRI NSM BN NSM", "LRI ON BN BN"},
		// Nor is a B, or what stands behind the mark.
		{"R", "B NSM", "B B"}, {"R", "L B NSM NSM", "L B B B"}, {"R", "NSM LRI", "R LRI"}, {"L", "EN NSM PDI", "EN EN PDI"},
		// Nothing else is changed.
		{"R", "EN AL EN AL ET EN ES EN CS", "EN AL EN AL ET EN ES EN CS"},
	} {
		s.check(t, 1)
	}
}

// P9.1: rule 2: EN with each strong one ahead, near by and far off, or with none.
func TestArabicNumbers(t *testing.T) {
	for _, x := range [][2]string{
		{"AL EN", "AL AN"}, {"AL ON EN", "AL ON AN"}, {"L EN", "L EN"}, {"R EN", "R EN"}, {"L ON EN", "L ON EN"}, {"R ON EN", "R ON EN"}, {"ON EN", "ON EN"}, {"EN", "EN"},
		// The nearest one says.
		{"AL R EN", "AL R EN"}, {"AL L EN", "AL L EN"}, {"R AL EN", "R AL AN"}, {"L AL EN", "L AL AN"}, {"AL L ON ON EN", "AL L ON ON EN"}, {"L ON AL ON EN", "L ON AL ON AN"}, {"AL 99 EN", "AL L EN"},
		// What is behind says nothing.
		{"EN AL", "EN AL"}, {"L EN AL", "L EN AL"}, {"EN AL EN", "EN AL AN"}, {"AL EN R", "AL AN R"}, {"AL EN L EN AL EN R EN", "AL AN L EN AL AN R EN"},
		// Many ENs behind one AL, and all that isn't strong between.
		{"AL EN EN EN EN", "AL AN AN AN AN"}, {"AL EN ES EN CS EN ET EN AN EN NSM EN", "AL AN ES AN CS AN ET AN AN AN NSM AN"},
		{"AL BN EN B EN S EN WS EN ON EN", "AL BN AN B AN S AN WS AN ON AN"}, {"AL LRE EN LRO EN RLE EN RLO EN PDF EN", "AL LRE AN LRO AN RLE AN RLO AN PDF AN"},
		{"AL LRI EN RLI EN FSI EN PDI EN", "AL LRI AN RLI AN FSI AN PDI AN"}, {"R LRI EN RLI EN FSI EN PDI EN", "R LRI EN RLI EN FSI EN PDI EN"},
		// Nothing else is changed.
		{"AL ES ET AN CS NSM L R AL", "AL ES ET AN CS NSM L R AL"},
	} {
		// AL ahead of the list counts as L.
		checkAll(t, 2, x[0], x[1])
	}
	for _, n := range []int{1, 7, 63, 126, 1000} {
		for _, between := range []string{"ON", "WS", "ET", "AN", "NSM", "BN", "RLI"} {
			many := slices.Repeat(read(between), n)
			for _, first := range strong {
				want := api.EN
				if first == api.AL {
					want = api.AN
				}
				checkRule(t, slices.Concat([]int{first}, many, []int{api.EN}), api.R, 2, slices.Concat([]int{first}, many, []int{want}))
			}
		}
	}
}

// P9.1: rule 3: AL alone, and among others.
func TestArabicLetters(t *testing.T) {
	for _, x := range [][2]string{
		{"AL", "R"}, {"AL AL", "R R"}, {"L AL", "L R"}, {"AL L", "R L"}, {"R AL R", "R R R"}, {"AL R AN", "R R AN"}, {"ON AL ON AL AL", "ON R ON R R"}, {"AL EN NSM AL", "R EN NSM R"},
		{"EN R L NSM ES ET CS AN 99", "EN R L NSM ES ET CS AN L"}, {"LRI AL PDI AL B AL", "LRI R PDI R B R"},
	} {
		checkAll(t, 3, x[0], x[1])
	}
	for _, k := range ahead {
		l := []int{api.AL, k, api.AL}
		want := oracleOf(l, api.L).l
		want[0], want[2] = api.R, api.R
		if k == api.AL {
			want[1] = api.R
		}
		checkRule(t, l, api.L, 3, want)
	}
}

// P9.1: rule 4: ES and CS between numbers alike and unlike, at both ends, and beside one another.
func TestSeparators(t *testing.T) {
	for _, x := range [][2]string{
		{"EN ES EN", "EN EN EN"}, {"EN CS EN", "EN EN EN"}, {"AN CS AN", "AN AN AN"}, {"AN ES AN", "AN ES AN"},
		{"EN ES AN", "EN ES AN"}, {"EN CS AN", "EN CS AN"}, {"AN ES EN", "AN ES EN"}, {"AN CS EN", "AN CS EN"},
		// At the beginning, and the end.
		{"ES EN", "ES EN"}, {"CS EN", "CS EN"}, {"CS AN", "CS AN"}, {"EN ES", "EN ES"}, {"EN CS", "EN CS"}, {"AN CS", "AN CS"}, {"ES", "ES"}, {"CS", "CS"}, {"L EN CS", "L EN CS"}, {"CS EN L", "CS EN L"},
		{"ES EN ES EN ES", "ES EN EN EN ES"}, {"CS AN CS AN CS", "CS AN AN AN CS"},
		// Two beside one another.
		{"EN CS CS EN", "EN CS CS EN"}, {"EN ES ES EN", "EN ES ES EN"}, {"EN ES CS EN", "EN ES CS EN"}, {"EN CS ES EN", "EN CS ES EN"}, {"AN CS CS AN", "AN CS CS AN"}, {"EN CS CS CS EN", "EN CS CS CS EN"},
		{"EN ES EN ES ES EN", "EN EN EN ES ES EN"}, {"EN CS EN CS CS EN CS EN", "EN EN EN CS CS EN EN EN"},
		// One behind another, where what is ahead is EN by this rule alone, or isn't.
		{"EN ES EN ES EN", "EN EN EN EN EN"}, {"EN CS EN CS EN CS EN", "EN EN EN EN EN EN EN"}, {"EN ES EN CS EN ES EN", "EN EN EN EN EN EN EN"}, {"AN CS AN CS AN", "AN AN AN AN AN"},
		{"EN ES EN CS AN CS AN CS EN", "EN EN EN CS AN AN AN CS EN"}, {"AN CS AN CS EN CS EN", "AN AN AN CS EN EN EN"}, {"AN ES AN CS AN", "AN ES AN AN AN"}, {"EN ES EN ES AN", "EN EN EN ES AN"}, {"EN EN ES ES ES", "EN EN ES ES ES"},
		{"EN CS EN CS", "EN EN EN CS"}, {"EN ES EN ES ES", "EN EN EN ES ES"}, {"CS EN CS EN", "CS EN EN EN"},
		// With something between.
		{"EN ON ES EN", "EN ON ES EN"}, {"EN ES ON EN", "EN ES ON EN"}, {"EN BN CS EN", "EN BN CS EN"}, {"EN CS NSM EN", "EN CS NSM EN"}, {"AN CS BN AN", "AN CS BN AN"}, {"L ES EN", "L ES EN"}, {"EN CS R", "EN CS R"},
		// None but ES and CS.
		{"EN ET EN", "EN ET EN"}, {"AN ET AN", "AN ET AN"}, {"EN ON EN", "EN ON EN"}, {"EN NSM EN", "EN NSM EN"}, {"AN AL AN EN AN", "AN AL AN EN AN"}, {"R CS R", "R CS R"}, {"L ES L", "L ES L"}, {"CS CS CS", "CS CS CS"}, {"ES CS ES", "ES CS ES"}, {"AL EN", "AL EN"},
	} {
		checkAll(t, 4, x[0], x[1])
	}
	for _, k := range ahead {
		between := func(a, b int) int {
			return weak.Rule([]int{a, k, b}, api.R, 4)[1]
		}
		alike := between(api.EN, api.EN) == api.EN
		if alike != (k == api.ES || k == api.CS || k == api.EN) {
			t.Errorf("%d between EN and EN: %d", k, between(api.EN, api.EN))
		}
		alike = between(api.AN, api.AN) == api.AN
		if alike != (k == api.CS || k == api.AN) {
			t.Errorf("%d between AN and AN: %d", k, between(api.AN, api.AN))
		}
	}
}

// P9.1: rule 5: ET, one and many, on each side of an EN, or of none.
func TestTerminators(t *testing.T) {
	for _, x := range [][2]string{
		{"ET EN", "EN EN"}, {"EN ET", "EN EN"}, {"EN ET EN", "EN EN EN"}, {"ET EN ET", "EN EN EN"}, {"ET", "ET"}, {"EN", "EN"},
		{"ET ET EN", "EN EN EN"}, {"EN ET ET", "EN EN EN"}, {"EN ET ET ET EN", "EN EN EN EN EN"}, {"ET ET ET EN ET ET", "EN EN EN EN EN EN"}, {"AN ET EN", "AN EN EN"}, {"EN ET AN", "EN EN AN"},
		{"L ET EN R", "L EN EN R"}, {"L EN ET ET R", "L EN EN EN R"}, {"R ET ET EN EN ET L", "R EN EN EN EN EN L"},
		// With something between.
		{"ET ON EN", "ET ON EN"}, {"EN ON ET", "EN ON ET"}, {"EN BN ET", "EN BN ET"}, {"ET NSM EN", "ET NSM EN"}, {"ET ON ET EN", "ET ON EN EN"}, {"EN ET ON ET", "EN EN ON ET"}, {"ET ET ON ET ET EN ET ON ET", "ET ET ON EN EN EN EN ON ET"},
		{"ET CS EN", "ET CS EN"}, {"EN ES ET", "EN ES ET"}, {"EN ET CS ET EN", "EN EN CS EN EN"}, {"EN ET CS ET CS ET EN", "EN EN CS ET CS EN EN"},
		// Beside no EN.
		{"ET ET ET ET", "ET ET ET ET"}, {"AN ET AN", "AN ET AN"}, {"ET ET AN", "ET ET AN"}, {"L ET ET R", "L ET ET R"}, {"ON ET", "ON ET"}, {"ET ON", "ET ON"}, {"AL ET ET ET", "AL ET ET ET"}, {"ET R ET L ET", "ET R ET L ET"},
		// One group behind another, each by itself.
		{"ET L ET EN R ET L EN ET AN ET", "ET L EN EN R ET L EN EN AN ET"}, {"EN ET L ET ET R EN", "EN EN L ET ET R EN"},
		// None but ET.
		{"EN ES CS AN NSM AL EN", "EN ES CS AN NSM AL EN"}, {"EN ON EN 99 EN", "EN ON EN L EN"},
	} {
		checkAll(t, 5, x[0], x[1])
	}
	for _, n := range []int{1, 2, 3, 62, 63, 64, 125, 126, 127, 300, 5000} {
		many, numbers := slices.Repeat([]int{api.ET}, n), slices.Repeat([]int{api.EN}, n)
		for _, k := range ahead {
			counts := oracleOf([]int{k}, api.L).l[0]
			want := many
			if k == api.EN {
				want = numbers
			} else if k == api.ET {
				continue
			}
			checkRule(t, append([]int{k}, many...), api.R, 5, append([]int{counts}, want...))
			checkRule(t, append(slices.Clone(many), k), api.R, 5, append(slices.Clone(want), counts))
			checkRule(t, slices.Concat([]int{k}, many, []int{api.EN}), api.R, 5, slices.Concat([]int{counts}, numbers, []int{api.EN}))
			checkRule(t, slices.Concat([]int{api.EN}, many, []int{k}), api.R, 5, slices.Concat([]int{api.EN}, numbers, []int{counts}))
			checkRule(t, slices.Concat([]int{k}, many, []int{api.ON}), api.R, 5, slices.Concat([]int{counts}, want, []int{api.ON}))
		}
	}
}

// P9.1: rule 6: ES, ET and CS, wherever they are left.
func TestLeftOver(t *testing.T) {
	for _, x := range [][2]string{
		{"ES", "ON"}, {"ET", "ON"}, {"CS", "ON"}, {"ES ET CS", "ON ON ON"}, {"AN ET", "AN ON"}, {"L ES EN", "L ON EN"}, {"EN CS AN", "EN ON AN"}, {"ET AN", "ON AN"},
		{"EN ES EN", "EN ON EN"}, {"ET EN ET", "ON EN ON"}, {"AN CS AN", "AN ON AN"}, {"CS CS L ES ES R ET ET", "ON ON L ON ON R ON ON"}, {"BN ET PDF", "BN ON PDF"}, {"LRI CS PDI", "LRI ON PDI"},
		{"EN AN NSM AL L R BN B S WS ON", "EN AN NSM AL L R BN B S WS ON"}, {"4 5 6 7 8 99", "ON ON AN ON NSM L"},
	} {
		checkAll(t, 6, x[0], x[1])
	}
}

// P9.1: rule 7: EN with each strong one ahead, near by and far off, or with none.
func TestLatinNumbers(t *testing.T) {
	for _, x := range [][2]string{
		{"L EN", "L L"}, {"R EN", "R EN"}, {"AL EN", "AL EN"}, {"L ON EN", "L ON L"}, {"R ON EN", "R ON EN"}, {"AL ON EN", "AL ON EN"}, {"99 EN", "L L"}, {"R 99 EN", "R L L"},
		// The nearest one says.
		{"L R EN", "L R EN"}, {"R L EN", "R L L"}, {"L AL EN", "L AL EN"}, {"AL L EN", "AL L L"}, {"L R ON ON EN", "L R ON ON EN"}, {"R ON L ON EN", "R ON L ON L"},
		// An EN behind one that has become L, and many.
		{"L EN EN", "L L L"}, {"L EN ON EN AN EN", "L L ON L AN L"}, {"R EN L EN R EN EN L EN EN", "R EN L L R EN EN L L L"},
		{"L ES EN CS EN ET EN AN EN NSM EN", "L ES L CS L ET L AN L NSM L"}, {"L BN EN B EN S EN WS EN ON EN", "L BN L B L S L WS L ON L"},
		{"L LRE EN LRO EN RLE EN RLO EN PDF EN", "L LRE L LRO L RLE L RLO L PDF L"}, {"L LRI EN RLI EN FSI EN PDI EN", "L LRI L RLI L FSI L PDI L"}, {"R LRI EN RLI EN FSI EN PDI EN", "R LRI EN RLI EN FSI EN PDI EN"},
		// Nothing else is changed.
		{"L AN ES ET CS NSM ON R AL", "L AN ES ET CS NSM ON R AL"},
	} {
		checkAll(t, 7, x[0], x[1])
	}
	for _, s := range []said{
		{"L", "EN", "L"}, {"R", "EN", "EN"}, {"L", "EN EN ON EN", "L L ON L"}, {"R", "EN EN ON EN", "EN EN ON EN"}, {"L", "ON EN R EN", "ON L R EN"}, {"R", "ON EN R EN L EN", "ON EN R EN L L"},
		{"L", "EN AL EN", "L AL EN"}, {"R", "EN AL EN L EN", "EN AL EN L L"}, {"AL", "EN", "L"}, {"AL", "WS EN R EN", "WS L R EN"}, {"ON", "EN", "L"}, {"EN", "EN EN", "L L"}, {"-1", "EN", "L"}, {"99", "AN EN", "AN L"}, {"4294967297", "EN", "L"},
	} {
		s.check(t, 7)
	}
	for _, n := range []int{1, 7, 63, 126, 1000} {
		for _, between := range []string{"ON", "WS", "ET", "AN", "NSM", "BN", "RLI"} {
			many := slices.Repeat(read(between), n)
			for _, first := range strong {
				want := api.EN
				if first == api.L {
					want = api.L
				}
				checkRule(t, slices.Concat([]int{first}, many, []int{api.EN}), api.R, 7, slices.Concat([]int{first}, many, []int{want}))
			}
			checkRule(t, append(slices.Clone(many), api.EN), api.R, 7, append(slices.Clone(many), api.EN))
			checkRule(t, append(slices.Clone(many), api.EN), api.L, 7, append(slices.Clone(many), api.L))
		}
	}
}

// P9.1: all seven, one behind the other: each of these would be another one if the rules were done otherwise, or in another order.
func TestOneBehindTheOther(t *testing.T) {
	for _, s := range []said{
		{"R", "AL EN CS EN", "R AN AN AN"}, {"R", "AL EN ES EN", "R AN ON AN"}, {"R", "AL EN ET", "R AN ON"}, {"R", "AL ET EN", "R ON AN"}, {"R", "R AL EN R EN", "R R AN R EN"},
		// A mark is what it stands on, for all that comes then.
		{"L", "R EN ET NSM", "R EN EN EN"}, {"R", "EN NSM ES EN", "EN EN EN EN"}, {"R", "EN CS NSM EN", "EN ON ON EN"}, {"R", "AL NSM EN", "R R AN"}, {"R", "L NSM EN", "L L L"}, {"R", "AL EN NSM", "R AN AN"}, {"R", "ET NSM EN", "EN EN EN"},
		{"R", "NSM EN", "R EN"}, {"L", "NSM EN", "L L"}, {"AL", "NSM EN", "L L"}, {"R", "LRI NSM EN", "LRI ON EN"}, {"L", "RLI NSM EN", "RLI ON L"}, {"R", "NSM ES EN", "R ON EN"}, {"R", "AN NSM CS AN NSM", "AN AN AN AN AN"},
		// Separators by rule 4 are EN for rule 5; what is EN by rule 5 comes too late for rule 4.
		{"R", "EN ES EN ET", "EN EN EN EN"}, {"R", "EN ES ET", "EN ON ON"}, {"R", "EN ET ES EN", "EN EN ON EN"}, {"R", "EN ES ET EN", "EN ON EN EN"}, {"R", "ET EN CS EN ET", "EN EN EN EN EN"}, {"R", "EN CS ET CS EN", "EN ON ON ON EN"},
		// Behind L all of these are L.
		{"L", "ET EN ES", "L L ON"}, {"R", "L ET EN ET CS EN", "L L L L ON L"}, {"R", "L EN ES EN", "L L L L"}, {"R", "L EN CS AN", "L L ON AN"}, {"L", "EN CS EN R EN CS EN", "L L L R EN EN EN"}, {"R", "99 ET EN", "L L L"},
		// Strong ones that are near by, and far off.
		{"R", "AL ON WS B EN", "R ON WS B AN"}, {"R", "L ON LRI PDI EN", "L ON LRI PDI L"}, {"L", "AL L EN R EN AL EN", "R L L R EN R AN"}, {"L", "R AL EN", "R R AN"},
		{"R", "AN ES AN CS AN", "AN ON AN AN AN"}, {"R", "AN ET EN", "AN EN EN"}, {"L", "AN ET EN ET AN", "AN L L L AN"}, {"R", "AL AN CS EN CS AN", "R AN AN AN AN AN"},
		// What is left out stands there as all others.
		{"R", "EN BN ES EN", "EN BN ON EN"}, {"R", "EN ET BN ET", "EN EN BN ON"}, {"R", "BN NSM", "BN BN"}, {"R", "AL PDF EN", "R PDF AN"}, {"R", "PDF NSM EN", "PDF PDF EN"},
	} {
		checkOf(t, read(s.l), read(s.sos)[0], read(s.want))
	}
}

// P9.1: the first strong one ahead of each place, and of places that aren't there.
func TestStrong(t *testing.T) {
	for _, x := range []struct {
		l, want string // of each place from 0 to how many there are; 77: sos
	}{
		{"L", "77 L"}, {"R", "77 R"}, {"AL", "77 AL"}, {"ON", "77 77"}, {"EN AN ES", "77 77 77 77"}, {"99", "77 L"}, {"-1 ON", "77 L L"},
		{"L EN AL ON", "77 L L AL AL"}, {"L R AL", "77 L R AL"}, {"AL R L", "77 AL R L"}, {"ON ON R WS L BN BN AL", "77 77 77 R R L L L AL"}, {"AL RLI L PDI EN", "77 AL AL L L L"}, {"R B EN PDI", "77 R R R R"},
		{"EN ES ET AN CS NSM BN B S WS ON LRE LRO RLE RLO PDF LRI RLI FSI PDI R", "77*21 R"}, {"R EN ES ET AN CS NSM BN B S WS ON LRE LRO RLE RLO PDF LRI RLI FSI PDI", "77 R*21"},
		{"R 99 ON AL 23", "77 R L L AL L"},
	} {
		l := read(x.l)
		for _, sos := range ahead {
			for i, want := range read(x.want) {
				if want == 77 {
					want = side(sos)
				}
				checkStrong(t, l, i, sos, want)
			}
			for _, i := range []int{-1, -2, -len(l), -len(l) - 1, len(l) + 1, len(l) + 2, 2*len(l) + 1, 1 << 32, 1<<32 + 1, -1 << 32, -1<<32 + 1, math.MaxInt32, math.MinInt32, math.MaxInt, math.MinInt} {
				checkStrong(t, l, i, sos, side(sos))
			}
		}
	}
}

// checkSaid: all calls are as the chapter's words say.
func checkSaid(t *testing.T, l []int, sos int) {
	t.Helper()
	o := oracleOf(l, sos)
	for n := range 9 {
		checkRule(t, l, sos, n, o.rule(n))
	}
	for i := -1; i <= len(l)+1; i++ {
		checkStrong(t, l, i, sos, o.strongAt(i))
	}
	checkOf(t, l, sos, o.all())
	step := l
	for n := 1; n <= 7; n++ {
		step = weak.Rule(step, sos, n)
	}
	checkOf(t, l, sos, step)
	if t.Failed() {
		t.FailNow()
	}
}

// P9.1: each one, two and three of all classes and of what is none.
func TestEachClassTogether(t *testing.T) {
	all := append(slices.Clone(noClasses[:2]), classes...)
	for l := range sample.Every(all, 3) {
		checkSaid(t, l, api.L)
		checkSaid(t, l, api.R)
		if len(l) > 2 {
			continue
		}
		for _, sos := range ahead {
			checkSaid(t, l, sos)
		}
	}
	for l := range sample.Every(noClasses, 2) {
		checkSaid(t, l, api.R)
	}
}

// P9.1: each three of all classes behind directions that are none.
func TestEachClassBehindOthers(t *testing.T) {
	for l := range sample.Every(classes, 3) {
		for _, sos := range []int{api.AL, api.ON, api.RLI, 23, -1, 1<<32 + api.R} {
			o := oracleOf(l, sos)
			for n := 1; n <= 7; n++ {
				checkRule(t, l, sos, n, o.rule(n))
			}
			checkOf(t, l, sos, o.all())
		}
		if t.Failed() {
			t.FailNow()
		}
	}
}

// P9.1: each short list of what says anything.
func TestShortLists(t *testing.T) {
	for _, x := range []struct {
		of   string
		most int
	}{
		{"EN AN ES CS", 6}, {"EN ET ON CS", 6}, {"L R AL EN NSM", 5}, {"NSM LRI PDI BN AL EN", 5}, {"L AL EN ET ES CS NSM", 4}, {"EN ET", 10}, {"AL EN CS ET", 6},
	} {
		for l := range sample.Every(read(x.of), x.most) {
			checkSaid(t, l, api.L)
			checkSaid(t, l, api.R)
		}
	}
}

// P9.1: mixed lists.
func TestMixedLists(t *testing.T) {
	for _, x := range mixtures {
		for l := range sample.Mixed(slices.Repeat(read(x.common), x.often), x.many, x.most) {
			checkSaid(t, l, api.L)
			checkSaid(t, l, api.R)
			checkSaid(t, l, api.AL)
		}
	}
}

// mixtures: what is often met in so many mixed lists of up to so many.
var mixtures = []struct {
	common            string
	often, many, most int
}{
	{"L", 0, 1000, 30},
	{"L R AL EN EN EN ES ET ET AN CS NSM NSM", 10, 1500, 30},
	{"EN EN ES CS AN ET", 20, 1500, 40},
	{"EN ET ET ET ON", 20, 1000, 40},
	{"NSM NSM NSM LRI RLI FSI PDI BN R EN", 10, 1000, 40},
	{"EN ON WS", 40, 500, 60},
	{"EN CS AN AL L R ET ES NSM", 15, 20, 400},
}

// P9.1: long lists: one after the other of one kind, and of several.
func TestLong(t *testing.T) {
	for _, n := range []int{300, 4001, 1 << 16} {
		for _, s := range []struct {
			first, many, last string
			sos               int
			want              [3]string
		}{
			{"EN", "ET", "", api.R, [3]string{"EN", "EN", ""}},
			{"", "ET", "EN", api.R, [3]string{"", "EN", "EN"}},
			{"L", "ET", "EN", api.R, [3]string{"L", "L", "L"}},
			{"", "ET", "", api.L, [3]string{"", "ON", ""}},
			{"AL", "EN", "", api.L, [3]string{"R", "AN", ""}},
			{"AL", "ON EN", "", api.L, [3]string{"R", "ON AN", ""}},
			{"L", "ON", "EN", api.R, [3]string{"L", "ON", "L"}},
			{"AL", "WS", "EN", api.R, [3]string{"R", "WS", "AN"}},
			{"", "EN", "", api.L, [3]string{"", "L", ""}},
			{"", "EN", "", api.R, [3]string{"", "EN", ""}},
			{"", "ON EN", "", api.L, [3]string{"", "ON L", ""}},
			{"", "ON EN", "", api.R, [3]string{"", "ON EN", ""}},
			{"EN", "ES EN", "", api.R, [3]string{"EN", "EN EN", ""}},
			{"AN", "CS AN", "", api.R, [3]string{"AN", "AN AN", ""}},
			{"AL", "EN CS", "EN", api.R, [3]string{"R", "AN AN", "AN"}},
			{"EN", "CS CS", "EN", api.R, [3]string{"EN", "ON ON", "EN"}},
			{"", "NSM", "", api.R, [3]string{"", "R", ""}},
			{"", "NSM", "EN", 99, [3]string{"", "L", "L"}},
			{"PDI", "NSM", "EN", api.R, [3]string{"PDI", "ON", "EN"}},
			{"EN", "NSM", "ET", api.R, [3]string{"EN", "EN", "EN"}},
			{"", "EN ET L R", "EN", api.R, [3]string{"", "EN EN L R", "EN"}},
			{"L", "EN ET ON ET ON", "", api.R, [3]string{"L", "L L ON ON ON", ""}},
			{"L", "AL EN ET CS R ET", "", api.R, [3]string{"L", "R AN ON ON R ON", ""}},
		} {
			many := slices.Repeat(read(s.many), n)
			got := weak.Of(slices.Concat(read(s.first), many, read(s.last)), s.sos)
			want := slices.Concat(read(s.want[0]), slices.Repeat(read(s.want[1]), n), read(s.want[2]))
			if !slices.Equal(got, want) {
				t.Errorf("Of %s, %d times %s, %s, behind %d: it isn't %s", s.first, n, s.many, s.last, s.sos, s.want)
			}
		}
	}
}

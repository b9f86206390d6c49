package class_test

import (
	"math"
	"slices"
	"testing"

	"ductus/api"
	"ductus/class"
)

// Numbers that are no characters; some would be one in 8, 16, 21 or 32 bits.
var noCharacters = []int{
	-1, -2, -'1', -0x5d0, -0x202a, -api.Top,
	0xd800, 0xd801, 0xdbff, 0xdc00, 0xdffe, 0xdfff,
	api.Top + 1, api.Top + 2, 0x1fffff, 0x200000 + 0x5d0, 0x7fffffff,
	1 << 31, 1<<31 + ' ', 1 << 32, 1<<32 + ' ', -1<<32 + ' ', 1<<32 + 0x202a, -1<<32 + 0x2067, 1<<62 + 0x5d0,
	math.MaxInt32, math.MinInt32, math.MaxInt, math.MinInt,
}

// Numbers that are no class; some would be one in 5, 6, 8, 16 or 32 bits.
var noClasses = []int{
	-1, -2, -9, -19, -22, -32, -64, -64 + api.BN, 23, 24, 31, 32, 32 + api.ON, 63, 64, 64 + api.BN, 64 + api.RLI, 128, 255, 256, 256 + api.B,
	1 << 16, 1<<16 + api.LRI, 1<<32 - 1, 1 << 32, 1<<32 + api.R, 1<<32 + api.PDI, -1 << 32, -1<<32 + api.WS,
	math.MaxInt32, math.MinInt32, math.MaxInt, math.MinInt,
}

func checkOf(t *testing.T, c, want int) {
	t.Helper()
	if got := class.Of(c); got != want {
		t.Errorf("Of %x: %d, not %d", c, got, want)
	}
}

// P2.1: Of, told in full: this hangs on no table.
func TestOf(t *testing.T) {
	for _, x := range []struct{ c, want int }{
		// The chapter's examples.
		{0x5d0, api.R}, {0x2067, api.RLI},
		{'a', api.L}, {'z', api.L}, {'A', api.L}, {'Z', api.L}, {0xaa, api.L}, {0xb5, api.L}, {0xba, api.L}, {0xe9, api.L},
		{0x3b1, api.L}, {0x430, api.L}, {0x4e00, api.L}, {0x1f5ff, api.L}, {0x1f650, api.L}, {api.Bad, api.L}, {api.Top, api.L},
		// Of no class in the table, though those about them are.
		{0x5be - 1, api.NSM}, {0x5c3, api.L}, {0x5f5, api.L}, {0x60e, api.L}, {0x60f, api.L}, {0x6d6, api.L}, {0x200e, api.L}, {0x2044, api.L}, {0x2065, api.L}, {0x206a, api.L},
		{0x590, api.L}, {0x2071, api.L}, {0x207a, api.L}, {0x2336, api.L}, {0x3007, api.L}, {0x3012, api.L}, {0xfefe, api.L}, {0xff00, api.L},
		{0x5ea, api.R}, {0x200f, api.R}, {0x627, api.AL}, {0x64a, api.AL}, {0x6d5, api.AL},
		{'0', api.EN}, {'9', api.EN}, {0xb2, api.EN}, {0x2079, api.EN}, {'+', api.ES}, {'-', api.ES}, {0x2212, api.ES},
		{'#', api.ET}, {'$', api.ET}, {'%', api.ET}, {0xa2, api.ET}, {0x66a, api.ET}, {0x20ac, api.ET}, {0x2213, api.ET},
		{0x600, api.AN}, {0x660, api.AN}, {0x669, api.AN}, {0x66b, api.AN}, {',', api.CS}, {'.', api.CS}, {'/', api.CS}, {':', api.CS}, {0xa0, api.CS},
		{0x300, api.NSM}, {0x5b0, api.NSM}, {0x64b, api.NSM}, {0x670, api.NSM},
		{0, api.BN}, {0x7f, api.BN}, {0xad, api.BN}, {0x200b, api.BN}, {0xfeff, api.BN},
		{'\n', api.B}, {'\r', api.B}, {0x1c, api.B}, {0x85, api.B}, {0x2029, api.B}, {'\t', api.S}, {0xb, api.S}, {0x1f, api.S},
		{' ', api.WS}, {0xc, api.WS}, {0x2028, api.WS},
		{'!', api.ON}, {'"', api.ON}, {'&', api.ON}, {'(', api.ON}, {')', api.ON}, {'*', api.ON}, {';', api.ON}, {'@', api.ON}, {'[', api.ON}, {'`', api.ON}, {'{', api.ON}, {'~', api.ON},
		{0xd7, api.ON}, {0xf7, api.ON}, {0x2010, api.ON}, {0x2027, api.ON}, {0x2190, api.ON}, {0x2211, api.ON}, {0x3008, api.ON}, {0x1f600, api.ON}, {0x1f64f, api.ON},
		{0x202a, api.LRE}, {0x202b, api.RLE}, {0x202c, api.PDF}, {0x202d, api.LRO}, {0x202e, api.RLO}, {0x202f, api.CS},
		{0x2066, api.LRI}, {0x2067, api.RLI}, {0x2068, api.FSI}, {0x2069, api.PDI},
	} {
		checkOf(t, x.c, x.want)
	}
}

// P2.1: Of the first and the last character of each span of the table, and of those beside them.
func TestOfAtEdges(t *testing.T) {
	all := spans()
	for _, x := range all {
		checkOf(t, x.low, x.class)
		checkOf(t, x.high, x.class)
		checkOf(t, x.low-1, classOf(x.low-1, all))
		checkOf(t, x.high+1, classOf(x.high+1, all))
	}
}

// P2.1: Of each character; Of what is none is L, though it be a character in fewer bits.
func TestOfAll(t *testing.T) {
	all := spans()
	for c := -0x3000; c <= 0x12000; c++ {
		checkOf(t, c, classOf(c, all))
	}
	for c := 0x12000; c <= 2*api.Top; c++ {
		if want := classOf(c, all); class.Of(c) != want {
			t.Fatalf("Of %x: %d, not %d", c, class.Of(c), want)
		}
	}
	for _, c := range noCharacters {
		checkOf(t, c, api.L)
	}
	for c := 0xd800; c <= 0xdfff; c++ {
		checkOf(t, c, api.L)
	}
	for _, x := range all {
		for _, away := range []int{1 << 21, 1 << 31, 1 << 32, 1 << 62, -1 << 21, -1 << 31, -1 << 32, math.MinInt} {
			checkOf(t, x.low+away, api.L)
			checkOf(t, x.high+away, api.L)
		}
		checkOf(t, -x.high-1, api.L)
	}
}

func checkAll(t *testing.T, l, want []int) {
	t.Helper()
	if got := class.All(l); !slices.Equal(got, want) {
		t.Errorf("All of %x: %d, not %d", l, got, want)
	}
}

// P2.1: All of each, in order, as many as there are.
func TestAll(t *testing.T) {
	checkAll(t, nil, nil)
	checkAll(t, []int{}, nil)
	checkAll(t, []int{0x5d0}, []int{api.R})
	checkAll(t, []int{'a', ' ', 0x5d0}, []int{api.L, api.WS, api.R})
	checkAll(t, []int{0x5d0, ' ', 'a'}, []int{api.R, api.WS, api.L})
	checkAll(t, []int{'a', 'a', '1', '1', 0x5d0, 0x5d0}, []int{api.L, api.L, api.EN, api.EN, api.R, api.R})
	checkAll(t, []int{0x2067, 0x627, 0x2069, '\n'}, []int{api.RLI, api.AL, api.PDI, api.B})
	checkAll(t, []int{'1', -1, '+', 0xd800, '1', api.Top + 1, ',', 1<<32 + ',', '1'}, []int{api.EN, api.L, api.ES, api.L, api.EN, api.L, api.CS, api.L, api.EN})
	checkAll(t, noCharacters, make([]int, len(noCharacters)))

	all := spans()
	var l, want []int
	for c := -2; c < 0x3100; c++ {
		l, want = append(l, c), append(want, classOf(c, all))
	}
	checkAll(t, l, want)
	slices.Reverse(l)
	slices.Reverse(want)
	checkAll(t, l, want)
}

// P2.1: All of more characters than a text may have.
func TestAllOfMany(t *testing.T) {
	for _, n := range []int{4000, 4001, 1 << 20} {
		got := class.All(slices.Repeat([]int{0x2067}, n))
		if !slices.Equal(got, slices.Repeat([]int{api.RLI}, n)) {
			t.Errorf("All of %d characters: %d classes", n, len(got))
		}
	}
}

// P2.1, by the rules that hold everywhere: what All is handed isn't changed nor kept, its spare room neither; its answer is new.
func TestAllKeepsNothing(t *testing.T) {
	whole := []int{'a', 0x5d0, ' ', 7, -7, 0x2067}
	was := slices.Clone(whole)
	want := []int{api.L, api.R, api.WS}
	got := class.All(whole[:3])
	if !slices.Equal(whole, was) {
		t.Errorf("what was handed in was changed to %x", whole)
	}
	again := class.All(whole[:3])
	for _, l := range [][]int{again[:cap(again)], whole} {
		for i := range l {
			l[i] = 99
		}
	}
	class.All([]int{'1', '1', '1', '1', '1', '1'})
	if !slices.Equal(got, want) {
		t.Errorf("the answer was changed to %d", got)
	}
}

// P2.1: Word, Strong, Out, Opens and Neutral of each class.
func TestOfClasses(t *testing.T) {
	for _, x := range []struct {
		class                       int
		word                        string
		strong, out, opens, neutral bool
	}{
		{class: api.L, word: "L", strong: true},
		{class: api.R, word: "R", strong: true},
		{class: api.AL, word: "AL", strong: true},
		{class: api.EN, word: "EN"},
		{class: api.ES, word: "ES"},
		{class: api.ET, word: "ET"},
		{class: api.AN, word: "AN"},
		{class: api.CS, word: "CS"},
		{class: api.NSM, word: "NSM"},
		{class: api.BN, word: "BN", out: true},
		{class: api.B, word: "B", neutral: true},
		{class: api.S, word: "S", neutral: true},
		{class: api.WS, word: "WS", neutral: true},
		{class: api.ON, word: "ON", neutral: true},
		{class: api.LRE, word: "LRE", out: true},
		{class: api.LRO, word: "LRO", out: true},
		{class: api.RLE, word: "RLE", out: true},
		{class: api.RLO, word: "RLO", out: true},
		{class: api.PDF, word: "PDF", out: true},
		{class: api.LRI, word: "LRI", opens: true, neutral: true},
		{class: api.RLI, word: "RLI", opens: true, neutral: true},
		{class: api.FSI, word: "FSI", opens: true, neutral: true},
		{class: api.PDI, word: "PDI", neutral: true},
	} {
		if got := class.Word(x.class); got != x.word {
			t.Errorf("Word of %d: %q, not %q", x.class, got, x.word)
		}
		if got := class.Strong(x.class); got != x.strong {
			t.Errorf("Strong of %s: %v", x.word, got)
		}
		if got := class.Out(x.class); got != x.out {
			t.Errorf("Out of %s: %v", x.word, got)
		}
		if got := class.Opens(x.class); got != x.opens {
			t.Errorf("Opens of %s: %v", x.word, got)
		}
		if got := class.Neutral(x.class); got != x.neutral {
			t.Errorf("Neutral of %s: %v", x.word, got)
		}
	}
}

// P2.1: the word of each character's class is the table's.
func TestWordsOfTable(t *testing.T) {
	for _, x := range spans() {
		if got := class.Word(class.Of(x.low)); got != x.word {
			t.Errorf("Word of %x's class: %q, not %q", x.low, got, x.word)
		}
	}
}

func checkNoClass(t *testing.T, k int) {
	t.Helper()
	if got := class.Word(k); got != "" {
		t.Errorf("Word of %d: %q", k, got)
	}
	if class.Strong(k) || class.Out(k) || class.Opens(k) || class.Neutral(k) {
		t.Errorf("%d is no class: strong %v, out %v, opens %v, neutral %v", k, class.Strong(k), class.Out(k), class.Opens(k), class.Neutral(k))
	}
}

// P2.1: numbers that are no class have no word, and are nothing.
func TestNoClasses(t *testing.T) {
	for _, k := range noClasses {
		checkNoClass(t, k)
	}
	for k := 23; k < 2000; k++ {
		checkNoClass(t, k)
		checkNoClass(t, 22-k)
	}
	// A character is no class, nor is a class plus what fewer bits don't hold.
	for k := range 23 {
		for bits := 5; bits < 64; bits++ {
			checkNoClass(t, k+1<<bits)
			checkNoClass(t, k-1<<bits)
		}
	}
}

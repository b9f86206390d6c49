package level_test

import (
	"slices"
	"strconv"
	"strings"
	"testing"

	"ductus/level"
)

// P12.1: embeddings and overrides within one another, unclosed, and closed too often.
func TestEmbeddings(t *testing.T) {
	checkAll(t, []said{
		{left, "RLE L PDF L", 0, "0 2 2 0", "RLE L PDF L"}, {left, "RLE L", 0, "0 2", "RLE L"}, {left, "LRE R PDF R", 0, "0 3 3 1", "LRE R PDF R"}, {right, "LRE R PDF R", 1, "1 3 3 1", "LRE R PDF R"}, {right, "RLE L PDF L", 1, "1 4 4 2", "RLE L PDF L"},
		{left, "RLE LRE L PDF R PDF L", 0, "0 0 2 2 1 1 0", "RLE LRE L PDF R PDF L"}, {left, "RLE RLE LRE L", 0, "0 0 0 4", "RLE RLE LRE L"}, {left, "L RLE PDF PDF L", 0, "0 0 0 0 0", "L RLE PDF PDF L"}, {looked, "PDF R PDF", 1, "1 1 1", "PDF R PDF"},
		{left, "RLE EN WS EN PDF", 0, "0 2 1 2 2", "RLE EN R EN PDF"}, {left, "LRE AL EN PDF EN", 0, "0 3 4 4 0", "LRE R AN PDF L"}, {right, "L LRE EN PDF EN", 1, "2 2 2 2 2", "L LRE L PDF L"}, {right, "L RLE EN PDF EN", 1, "2 2 4 4 2", "L RLE EN PDF EN"},
		// What is neutral beside one looks at the greater level.
		{left, "L ON RLE R PDF ON L", 0, "0 0 0 1 1 0 0", "L L RLE R PDF L L"}, {left, "R ON RLE L PDF ON R", 0, "1 1 1 2 2 1 1", "R R RLE L PDF R R"}, {left, "RLE ON L ON PDF", 0, "0 1 2 1 1", "RLE R L R PDF"}, {left, "RLE L ON PDF LRE ON L PDF", 0, "0 2 2 2 2 2 2 2", "RLE L L PDF LRE L L PDF"}, {left, "RLE L ON PDF ON L", 0, "0 2 1 1 0 0", "RLE L R PDF L L"},
		// Overrides, but not of what is embedded in them.
		{left, "RLO L EN NSM WS B", 0, "0 1 1 1 1 0", "RLO R R R R L"}, {left, "LRO R AL EN AN PDF R", 0, "0 2 2 2 2 2 1", "LRO L L L L PDF R"}, {left, "RLO L LRE L PDF L PDF L", 0, "0 1 1 2 2 1 1 0", "RLO R LRE L PDF R PDF L"}, {left, "LRO RLO R LRO R PDF L", 0, "0 0 3 3 4 4 3", "LRO RLO R LRO L PDF R"}, {right, "LRO R", 1, "1 2", "LRO L"}, {right, "RLO EN", 1, "1 3", "RLO R"},
	})
}

// P12.1: isolates within one another, unclosed, and closed too often; beside embeddings, and overridden.
func TestIsolates(t *testing.T) {
	checkAll(t, []said{
		{left, "L RLI L PDI L", 0, "0 0 2 0 0", "L L L L L"}, {left, "RLI R", 0, "0 1", "L R"}, {left, "L PDI L", 0, "0 0 0", "L L L"}, {left, "R RLI L PDI R", 0, "1 1 2 1 1", "R R L R R"}, {left, "R LRI L PDI L", 0, "1 0 2 0 0", "R L L L L"}, {right, "L LRI R PDI L", 1, "2 2 3 2 2", "L L R L L"}, {right, "R RLI L", 1, "1 1 4", "R R L"},
		{left, "LRI RLI R PDI L", 0, "0 2 3 2 2", "L L R L L"}, {left, "RLI LRI R PDI L PDI L", 0, "0 1 3 1 2 0 0", "L R R R L L L"}, {left, "R RLI L PDI LRI R PDI R", 0, "1 1 2 1 1 3 1 1", "R R L R R R R R"},
		// Numbers and marks look over them, but not into them.
		{left, "AL RLI L PDI EN", 0, "1 1 2 1 2", "R R L R AN"}, {left, "R RLI L EN PDI EN", 0, "1 1 2 2 1 2", "R R L L R EN"}, {left, "AL LRI EN PDI EN", 0, "1 1 2 1 2", "R R L R AN"}, {left, "R EN RLI PDI CS EN", 0, "1 2 1 1 1 2", "R EN R R R EN"}, {right, "L RLI NSM PDI NSM L", 1, "2 2 3 2 2 2", "L L R L L L"},
		// Embeddings end with the isolate that they begin in; those ahead of it go on behind it.
		{left, "RLI LRE L PDI L", 0, "0 0 2 0 0", "L LRE L L L"}, {left, "RLE RLI PDF L PDI L", 0, "0 1 1 4 1 2", "RLE R PDF L R L"}, {left, "RLE RLI L PDI PDF R", 0, "0 1 4 1 1 1", "RLE R L R PDF R"}, {left, "RLI RLE LRO R PDI R LRE R", 0, "0 0 0 4 0 1 1 3", "L RLE LRO L L R LRE R"},
		// Overrides go over what begins and ends them, but not into them.
		{left, "RLO LRI L PDI L PDF", 0, "0 1 2 1 1 1", "RLO R L R R PDF"}, {left, "LRO RLI R PDI R", 0, "0 2 3 2 2", "LRO L R L L"}, {left, "RLO LRI PDF L PDI PDI L", 0, "0 1 1 2 1 1 1", "RLO R PDF L R R R"}, {left, "LRI RLO L PDI L", 0, "0 0 3 0 0", "L RLO R L L"},
	})
}

// P12.1: an isolate whose direction is looked for has that of its first strong one that is in no isolate within it.
func TestIsolatesThatAreLookedFor(t *testing.T) {
	checkAll(t, []said{
		{left, "FSI R PDI", 0, "0 1 0", "L R L"}, {left, "FSI L PDI", 0, "0 2 0", "L L L"}, {left, "FSI AL L PDI", 0, "0 1 2 0", "L R L L"}, {left, "FSI L R PDI", 0, "0 2 3 0", "L L R L"}, {left, "FSI WS R L PDI R", 0, "0 1 1 2 0 1", "L R R L L R"}, {right, "FSI L PDI L", 1, "1 2 1 2", "R L R L"}, {right, "FSI R PDI R", 1, "1 3 1 1", "R R R R"},
		// None: from left to right.
		{left, "FSI EN PDI", 0, "0 2 0", "L L L"}, {left, "FSI PDI R", 0, "0 0 1", "L L R"}, {right, "FSI ON PDI R", 1, "1 2 1 1", "R L R R"}, {left, "FSI FSI R PDI PDI L", 0, "0 2 3 2 0 0", "L L R L L L"}, {left, "FSI RLI AL PDI WS PDI", 0, "0 2 3 2 2 0", "L L R L L L"},
		// Looked for behind what is within, and up to the end, or the paragraph's.
		{left, "FSI LRI L PDI R L PDI", 0, "0 1 2 1 1 2 0", "L R L R R L L"}, {left, "FSI RLI R PDI L PDI", 0, "0 2 3 2 2 0", "L L R L L L"}, {left, "FSI R L", 0, "0 1 2", "L R L"}, {left, "FSI B R", 0, "0 0 1", "L L R"}, {left, "FSI WS B R PDI", 0, "0 2 0 1 0", "L L L R L"}, {left, "FSI LRI L B R", 0, "0 2 4 0 1", "L L L L R"},
		// Embeddings and overrides say nothing, neither those within nor those round it.
		{left, "FSI RLE L PDI", 0, "0 0 4 0", "L RLE L L"}, {left, "FSI LRE PDF R PDI", 0, "0 0 0 1 0", "L LRE PDF R L"}, {left, "RLO FSI L PDI", 0, "0 1 2 1", "RLO R L R"}, {left, "LRO FSI R L", 0, "0 2 3 4", "LRO L R L"},
		{looked, "R FSI L PDI R", 1, "1 1 2 1 1", "R R L R R"}, {looked, "FSI R PDI L", 0, "0 1 0 0", "L R L L"},
	})
}

// P12.1: embeddings up to the greatest level, and deeper ones, that count for nothing but their ends.
func TestDeepEmbeddings(t *testing.T) {
	both := strings.Repeat("RLE LRE ", 62)
	checkAll(t, []said{
		{left, "RLE*62 L", 0, "0*62 124", "RLE*62 L"}, {left, "RLE*63 L", 0, "0*63 126", "RLE*63 L"}, {left, "RLE*63 R", 0, "0*63 125", "RLE*63 R"}, {left, "RLE*64 L", 0, "0*64 126", "RLE*64 L"}, {left, "RLE*100 R EN", 0, "0*100 125 126", "RLE*100 R EN"},
		{left, "LRE*62 R EN L AN", 0, "0*62 125 126 124 126", "LRE*62 R EN L AN"}, {left, "LRE*63 L", 0, "0*63 124", "LRE*63 L"}, {left, "LRE*62 RLE L", 0, "0*63 126", "LRE*62 RLE L"}, {left, "LRE*63 RLE L", 0, "0*64 124", "LRE*63 RLE L"},
		{right, "RLE*62 R", 1, "1*62 125", "RLE*62 R"}, {right, "RLE*63 L", 1, "1*63 126", "RLE*63 L"}, {right, "LRE*62 R", 1, "1*62 125", "LRE*62 R"},
		{left, both + "L", 0, "0*124 124", both + "L"}, {left, both + "RLE R", 0, "0*125 125", both + "RLE R"}, {left, both + "RLE LRE L", 0, "0*126 126", both + "RLE LRE L"}, {left, both + "LRE R", 0, "0*125 125", both + "LRE R"},
		// Each that is too deep has an end of its own.
		{left, "RLE*63 LRE L PDF L PDF R", 0, "0*64 126 126 126 126 123", "RLE*63 LRE L PDF L PDF R"}, {left, "RLE*65 L PDF*3 R", 0, "0*65 126 126*3 123", "RLE*65 L PDF*3 R"}, {left, "RLE*63 PDF*63 L", 0, "0*126 0", "RLE*63 PDF*63 L"}, {left, "RLE*70 R PDF*69 R PDF R", 0, "0*70 125 125*69 1 1 1", "RLE*70 R PDF*69 R PDF R"},
		// One that is too deep overrides nothing, nor does one fit behind it.
		{left, "RLE*63 LRO R EN", 0, "0*64 125 126", "RLE*63 LRO R EN"}, {left, "RLE*63 RLO L", 0, "0*64 126", "RLE*63 RLO L"}, {left, "LRE*62 LRO RLO L", 0, "0*64 124", "LRE*62 LRO RLO L"}, {left, "LRE*62 RLO L", 0, "0*63 125", "LRE*62 RLO R"},
		{left, "RLE*63 L B L", 0, "0*63 126 0 0", "RLE*63 L L L"},
	})
}

// P12.1: isolates up to the greatest level, and deeper ones.
func TestDeepIsolates(t *testing.T) {
	checkAll(t, []said{
		{left, "RLE*63 RLI L PDI R", 0, "0*63 125 126 125 125", "RLE*63 R L R R"}, {left, "RLE*63 LRI L PDI L", 0, "0*63 125 126 126 126", "RLE*63 R L L L"}, {left, "RLE*63 FSI L PDI R PDF R", 0, "0*63 125 126 125 125 125 123", "RLE*63 R L R R PDF R"}, {left, "LRE*62 LRI R PDI L", 0, "0*62 124 125 124 124", "LRE*62 L R L L"}, {left, "LRE*62 RLI L PDI L", 0, "0*62 124 126 124 124", "LRE*62 L L L L"},
		// Within one that is too deep no embedding begins, or ends.
		{left, "RLE*63 RLI PDF L PDI R PDF R", 0, "0*63 125 125 126 125 125 125 123", "RLE*63 R PDF L R R PDF R"}, {left, "RLE*62 LRI RLI RLE L PDF R PDI R", 0, "0*62 123 124 124 126 126 125 124 125", "RLE*62 R L RLE L PDF R L R"},
		// An isolate's end ends what is too deep within it.
		{left, "LRI RLE*70 L PDI R", 0, "0 0*70 126 0 1", "L RLE*70 L L R"}, {left, "RLI RLE*70 PDI LRE L PDF L", 0, "0 0*70 0 0 2 2 0", "L RLE*70 L LRE L PDF L"},
	})
	for n := 1; n <= 70; n++ {
		// Those that begin within one another have the levels 0, 1, 3 up to 125, where there is no room any more.
		var down []int
		for i := range n {
			down = append(down, min(max(2*i-1, 0), 125))
		}
		up := slices.Clone(down)
		slices.Reverse(up)
		inside := min(2*n, 126)
		text := "RLI*" + strconv.Itoa(n) + " L"
		told := "L R*" + strconv.Itoa(n-1) + " L"
		said{left, text, 0, numbers(append(slices.Clone(down), inside)), told}.check(t)
		said{left, text + " PDI*" + strconv.Itoa(n), 0, numbers(slices.Concat(down, []int{inside}, up)), told + " R*" + strconv.Itoa(n-1) + " L"}.check(t)
	}
}

// P12.1: what is left out has the level of the one right ahead of it, which may be left out, too; at the beginning the base. Its class is its own.
func TestLeftOut(t *testing.T) {
	for _, x := range strings.Fields("BN LRE LRO RLE RLO PDF") {
		checkAll(t, []said{
			{left, x, 0, "0", x}, {right, x, 1, "1", x}, {left, x + "*3", 0, "0*3", x + "*3"}, {right, x + "*3", 1, "1*3", x + "*3"},
			{left, "R " + x, 0, "1 1", "R " + x}, {right, "L " + x, 1, "2 2", "L " + x}, {looked, "R EN " + x + "*4", 1, "1 2 2*4", "R EN " + x + "*4"}, {left, "L R " + x + " B", 0, "0 1 1 0", "L R " + x + " L"}, {left, "R B " + x + "*2", 0, "1 0 0*2", "R L " + x + "*2"},
		})
	}
	for _, x := range []string{"BN", "PDF", "LRE PDF", "RLO PDF", "BN*3", "PDF*3", "RLE LRO PDF BN PDF PDF"} {
		n := strconv.Itoa(len(write(x)))
		checkAll(t, []said{
			{left, x + " R L", 0, "0*" + n + " 1 0", x + " R L"}, {right, x + " L R", 1, "1*" + n + " 2 1", x + " L R"},
			{left, "R " + x + " L", 0, "1 1*" + n + " 0", "R " + x + " L"}, {left, "L R " + x + " R L", 0, "0 1 1*" + n + " 1 0", "L R " + x + " R L"}, {right, "L R " + x + " L", 1, "2 1 1*" + n + " 2", "L R " + x + " L"},
			{looked, "R EN " + x + " EN", 1, "1 2 2*" + n + " 2", "R EN " + x + " EN"},
		})
	}
	checkAll(t, []said{
		{left, "RLE R PDF LRE R", 0, "0 1 1 1 3", "RLE R PDF LRE R"}, {left, "RLI BN L BN PDI BN", 0, "0 0 2 2 0 0", "L BN L BN L BN"}, {left, "BN B BN R BN", 0, "0 0 0 1 1", "BN L BN R BN"},
		// The rules look over it.
		{looked, "R EN BN CS BN EN", 1, "1 2 2 2 2 2", "R EN BN EN BN EN"}, {looked, "R EN BN ET", 1, "1 2 2 2", "R EN BN EN"}, {left, "R BN NSM L", 0, "1 1 1 0", "R BN R L"}, {left, "R WS BN WS R", 0, "1 1 1 1 1", "R R BN R R"}, {left, "R ( BN L ) BN NSM R", 0, "1 0 0 0 0 0 0 1", "R L BN L L BN L R"}, {left, "BN AL BN EN", 0, "0 1 1 2", "BN R BN AN"}, {left, "RLI BN PDI BN NSM R", 0, "0 0 0 0 0 1", "L BN L BN L R"},
	})
	if levels, _ := level.Of(write("L BN*4000 R"), 0); len(levels) != 4002 || level.Most(levels[:4001]) != 0 {
		t.Errorf("of very many: %s", numbers(levels))
	}
}

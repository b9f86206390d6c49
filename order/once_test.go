package order_test

import (
	"slices"
	"testing"

	"ductus/api"
	"ductus/class"
	"ductus/level"
	"ductus/line"
	"ductus/order"
	"ductus/sample"
)

// mixtures: levels that are often met with one another.
var mixtures = []string{
	"0 1", "0 1 2", "1 2", "1 2 2 2 3", "0 0 0 1 1 1 2 2 3 4", "1 1 1 1 1 1 0", "0 3 6 9", "124 125 126 127", "126 127 128 129 200", "-2 -1 0 1 2", "-1 1 128", "2 4 6", "1 3 5", "0 1 2 3 4 5 6 7 8 9 10 11 12",
}

// mixed: so many lists of each mixture, of up to so many levels; and of all levels that count as they are, and others.
func mixed(many, most int, yield func(levels []int)) {
	for _, text := range mixtures {
		for levels := range sample.MixedOf(read(text), many, most) {
			yield(levels)
		}
	}
	for levels := range sample.MixedOf(slices.Concat(after(128), sample.Even(), sample.Odd()), many, most) {
		yield(levels)
	}
	// Longer rows: each level stands there several times.
	for levels := range sample.MixedOf(read("0 1 1 2 3 -1 130"), many, most/3) {
		var out []int
		for i, level := range levels {
			out = append(out, slices.Repeat([]int{level}, 1+(i*i+level&7)%5)...)
		}
		yield(out)
	}
}

// P14.1: mixed levels, by the chapter's words.
func TestMixedLevels(t *testing.T) {
	mixed(200, 50, func(levels []int) { checkOracle(t, levels) })
}

// checkOnce: each place is there once; those that stand beside one another with one level are seen so, rising or falling.
func checkOnce(t *testing.T, levels []int) {
	t.Helper()
	l := order.Of(levels)
	if len(l) != len(levels) || !onceEach(l) || !order.Right(l) {
		t.Fatalf("Of %s: %s, that hasn't each place once", numbers(levels), numbers(l))
	}
	columns, e := order.Back(l)
	if e != api.OK {
		t.Fatalf("Back of Of %s: error %d", numbers(levels), e)
	}
	for i := range len(levels) - 1 {
		if counted(levels[i]) != counted(levels[i+1]) {
			continue
		}
		step := 1
		if counted(levels[i])%2 == 1 {
			step = -1
		}
		if columns[i+1]-columns[i] != step {
			t.Fatalf("Of %s: places %d and %d are in columns %d and %d", numbers(levels), i, i+1, columns[i], columns[i+1])
		}
	}
}

// P14.2: an order has each place once, and rows of one level rise, or fall.
func TestEachOnce(t *testing.T) {
	checkOnce(t, nil)
	for levels := range sample.Every(read("-1 0 1 2 3 128"), 5) {
		checkOnce(t, levels)
	}
	mixed(200, 50, func(levels []int) { checkOnce(t, levels) })
}

// P14.2: of one level, as it counts, a list is as it was, or turned round.
func TestOneLevel(t *testing.T) {
	for n := range 12 {
		for level := range 128 {
			want := after(n)
			if level%2 == 1 {
				want = turned(want)
			}
			check(t, slices.Repeat([]int{level}, n), want)
		}
	}
	// Unlike ones, that count as one.
	for levels := range sample.MixedOf(append(slices.Clone(below), 0), 200, 30) {
		check(t, levels, after(len(levels)))
	}
	for levels := range sample.MixedOf(great, 200, 30) {
		check(t, levels, turned(after(len(levels))))
	}
}

// lets: is between two that stay nothing left out whose level, as it counts, is below both of theirs? Two that stay with others between them are not asked, so that more is let than must be.
func lets(levels []int, keep []bool) bool {
	last := -1
	for i, stays := range keep {
		if !stays {
			continue
		}
		for j := last + 1; last >= 0 && j < i; j++ {
			if counted(levels[j]) < min(counted(levels[last]), counted(levels[i])) {
				return false
			}
		}
		last = i
	}
	return true
}

// checkLeftOut: what is left out of a line is left out of its order, where that is so.
func checkLeftOut(t *testing.T, levels []int, keep []bool) {
	t.Helper()
	var stay, left []int
	for i, stays := range keep {
		if stays {
			stay, left = append(stay, i), append(left, levels[i])
		}
	}
	want := order.Of(left)
	for column, i := range want {
		want[column] = stay[i]
	}
	if got := order.Only(order.Of(levels), keep); !slices.Equal(got, want) {
		t.Fatalf("of levels %s stay %s: %s, not %s", numbers(levels), numbers(stay), numbers(got), numbers(want))
	}
}

// P14.2: what is left out, told in full; so is what becomes of it where something between two that stay is below both.
func TestLeftOut(t *testing.T) {
	for _, x := range []struct {
		levels, keep, left, order string
		lets                      bool
	}{
		{"0 1 1 0", "1111", "0 2 1 3", "0 2 1 3", true}, {"0 1 1 0", "0000", "", "", true}, {"0 1 1 0", "1011", "0 2 3", "0 1 2", true}, {"0 1 1 0", "0111", "2 1 3", "1 0 2", true}, {"1 0 1", "110", "0 1", "0 1", true}, {"1 1 1", "101", "2 0", "1 0", true}, {"1 2 1", "101", "2 0", "1 0", true}, {"1 2 2 1", "0110", "1 2", "0 1", true}, {"0 1 2 1 0", "01010", "3 1", "1 0", true}, {"0 0 1 1", "1011", "0 3 2", "0 2 1", true}, {"1 0 0", "101", "0 2", "0 1", true}, {"1 -3 0", "101", "0 2", "0 1", true}, {"-1 -2 -1", "101", "0 2", "0 1", true}, {"129 127 130", "101", "2 0", "1 0", true}, {"1 1 0 1 1", "10110", "0 2 3", "0 1 2", true}, {"2 1 1 2", "1011", "3 2 0", "2 1 0", true},
		{"1 0 1", "101", "0 2", "1 0", false}, {"3 2 3", "101", "0 2", "1 0", false}, {"1 1 0 1", "1101", "1 0 3", "2 1 0", false}, {"2 1 2", "101", "2 0", "0 1", false}, {"1 -1 1", "101", "0 2", "1 0", false}, {"128 126 127", "101", "0 2", "1 0", false}, {"3 1 3 1", "1011", "3 2 0", "2 1 0", false},
	} {
		levels, keep := read(x.levels), flags(x.keep)
		checkOnly(t, orderOf(levels), keep, read(x.left))
		checkOnly(t, order.Of(levels), keep, read(x.left))
		var left []int
		for i, stays := range keep {
			if stays {
				left = append(left, levels[i])
			}
		}
		check(t, left, read(x.order))
		if lets(levels, keep) != x.lets {
			t.Errorf("of levels %s stay %s: lets is %t", x.levels, x.keep, !x.lets)
		}
		if x.lets {
			checkLeftOut(t, levels, keep)
		}
	}
}

// P14.2: each short list, with each that may be left out.
func TestShortLeftOut(t *testing.T) {
	for levels := range sample.Every(read("-1 0 1 2 3 128"), 5) {
		for signs := range 1 << len(levels) {
			keep := make([]bool, len(levels))
			for i := range keep {
				keep[i] = signs>>i&1 == 1
			}
			if lets(levels, keep) {
				checkLeftOut(t, levels, keep)
			}
		}
	}
}

// P14.2: mixed levels, of which mixed ones are left out; where one mustn't be, it stays.
func TestMixedLeftOut(t *testing.T) {
	n := 0
	mixed(200, 40, func(levels []int) {
		keep := make([]bool, len(levels))
		for i := range keep {
			n = (n*31 + i + 7) % 1009
			keep[i] = n%3 > 0
		}
		for !lets(levels, keep) {
			keep[slices.Index(keep, false)] = true
		}
		checkLeftOut(t, levels, keep)
		// All but one, each of them.
		for i := range keep {
			one := slices.Repeat([]bool{true}, len(keep))
			one[i] = false
			if lets(levels, one) {
				checkLeftOut(t, levels, one)
			}
		}
	})
}

// P14.2: lines of mixed texts, of which what layer 2 leaves out is left out.
func TestLines(t *testing.T) {
	some := 0
	for chars := range sample.MixedOf(append(sample.All(), slices.Repeat(write("L R AL EN AN ON ( ) WS RLE LRE PDF BN RLI PDI"), 15)...), 600, 60) {
		for _, dir := range []int{api.DirLeft, api.DirRight} {
			levels, base := level.Of(chars, dir)
			lines, _ := line.Lines(line.Wrap(len(chars), 20), len(chars))
			for _, l := range lines {
				part, own := chars[l.From:l.To], line.Levels(chars, levels, base, l)
				checkOracle(t, own)
				checkOnce(t, own)
				checkSeen(t, part, own, seenOf(part, own))
				keep := make([]bool, len(part))
				for i, c := range part {
					keep[i] = !class.Out(class.Of(c))
				}
				if lets(own, keep) && slices.Contains(keep, false) {
					checkLeftOut(t, own, keep)
					some++
				}
			}
		}
	}
	if some < 500 {
		t.Errorf("of %d lines alone something is left out", some)
	}
}

// P14.1: long lines, to the end.
func TestLongLines(t *testing.T) {
	for _, n := range []int{api.MaxText, 1 << 20} {
		for _, level := range []int{0, 1, 126, 127, 1 << 40, -1} {
			want := after(n)
			if counted(level)%2 == 1 {
				want = turned(want)
			}
			check(t, slices.Repeat([]int{level}, n), want)
		}
		// Up to 127 and down again, by many within one another.
		levels := make([]int, n)
		for i := range levels {
			levels[i] = min(i, n-1-i)
		}
		l := order.Of(levels)
		if !order.Right(l) || l[0] != 0 || l[1] != n-2 || l[2] != 2 || l[n-2] != 1 || l[n-1] != n-1 {
			t.Errorf("Of %d levels that rise and fall: %s", n, numbers(l))
		}
		columns, e := order.Back(l)
		if back, again := order.Back(columns); e != api.OK || again != api.OK || !slices.Equal(back, l) {
			t.Errorf("Back of %d: error %d, then %d", n, e, again)
		}
		if kept := order.Only(l, slices.Repeat([]bool{true}, n)); !slices.Equal(kept, l) {
			t.Errorf("Only of %d, that all stay: %s", n, numbers(kept))
		}
	}
}

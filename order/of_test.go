package order_test

import (
	"slices"
	"testing"

	"ductus/sample"
)

// P14.1: no levels, one, and levels all alike: even ones stay as they were, odd ones are turned round.
func TestAlike(t *testing.T) {
	check(t, nil, nil)
	check(t, []int{}, nil)
	alike := func(level int, falls bool) {
		t.Helper()
		check(t, []int{level}, []int{0})
		for _, n := range []int{2, 3, 4, 5, 40} {
			want := after(n)
			if falls {
				want = turned(want)
			}
			check(t, slices.Repeat([]int{level}, n), want)
		}
	}
	for level := range 127 {
		alike(level, level%2 == 1)
	}
	// Those above 127 count as it, even ones, too; those below 0 as 0, odd ones, too.
	for _, level := range great {
		alike(level, true)
	}
	for _, level := range below {
		alike(level, false)
	}
}

// P14.1: the chapter's example, and others that are told in full.
func TestOrders(t *testing.T) {
	for levels, want := range map[string]string{
		"0 1 1 0": "0 2 1 3",
		// Rows of a greater level at the beginning, in the middle and at the end of a lesser one.
		"2 2 1 1": "3 2 0 1", "1 2 2 1": "3 1 2 0", "1 1 2 2": "2 3 1 0", "3 3 2 2": "1 0 2 3", "2 3 3 2": "0 2 1 3", "2 2 3 3": "0 1 3 2", "1 1 0 0": "1 0 2 3", "0 0 1 1": "0 1 3 2", "2 2 0 2 2": "0 1 2 3 4", "3 3 0 3 3": "1 0 2 4 3",
		"0 1 2 1 0": "0 3 2 1 4", "0 1 2 2 1 0": "0 4 2 3 1 5", "0 2 2 1": "0 3 1 2", "1 2 2 0": "1 2 0 3", "2 2 1 1 0 0 1 1 2 2": "3 2 0 1 4 5 8 9 7 6", "1 2 2 1 1 3 3 1": "7 6 5 4 3 1 2 0", "1 3 3 3 1 2 2 1": "7 5 6 4 3 2 1 0",
		// Three and more within one another.
		"1 2 3 4 3 2 1": "6 1 4 3 2 5 0", "0 1 2 3 2 1 0": "0 5 2 3 4 1 6", "4 3 2 1": "3 1 0 2", "1 2 3 4": "1 3 2 0", "0 1 2 3 4": "0 2 4 3 1", "4 3 2 1 0": "3 1 0 2 4", "3 3 2 2 1 1 0 0": "5 4 1 0 2 3 6 7", "0 0 1 1 2 2 3 3": "0 1 4 5 7 6 3 2", "2 3 3 2 1 1": "5 4 0 2 1 3", "1 1 2 3 3 2": "2 4 3 5 1 0",
		// Levels that leap by two and more.
		"0 3 0": "0 1 2", "0 3 3 0": "0 2 1 3", "0 2 2 0": "0 1 2 3", "0 2 0 2 0": "0 1 2 3 4", "1 3 3 1": "3 2 1 0", "1 4 4 1": "3 1 2 0", "0 5 5 0 7 7": "0 2 1 3 5 4", "1 5 1": "2 1 0", "2 5 5 2": "0 2 1 3", "2 4 4 2": "0 1 2 3", "3 5 5 3": "3 2 1 0", "7 7 2 2 7 7": "1 0 2 3 5 4", "1 6 6 3 3 6 6 1": "7 5 6 4 3 1 2 0", "0 126 126 1": "0 3 1 2", "125 125 0": "1 0 2",
		// Levels that touch 0.
		"1 0 1": "0 1 2", "0 1 0 1 0": "0 1 2 3 4", "1 1 0 0 1 1": "1 0 2 3 5 4", "2 0 2 1": "0 1 3 2", "1 0 2 2": "0 1 2 3", "1 2 0 1 2": "1 0 2 4 3", "0 0 1": "0 1 2", "1 1 0": "1 0 2",
		// Levels below 0 count as 0, above 127 as 127.
		"-5 1 1": "0 2 1", "1 -5 1": "0 1 2", "1 1 -5": "1 0 2", "-1 2 2": "0 1 2", "-1 -2 -3": "0 1 2", "-1 0 -1 1 1 0": "0 1 2 4 3 5", "1 1 -1 -1 1 1": "1 0 2 3 5 4", "-3 -3 0 0 -3 -3": "0 1 2 3 4 5",
		"127 128 129": "2 1 0", "128 128 127 126 126": "2 1 0 3 4", "126 200 300 126": "0 2 1 3", "200 127 126": "1 0 2", "1 500 500 1": "3 2 1 0", "126 128 127 125 126": "4 3 0 2 1", "0 200 201 0 1 1": "0 2 1 3 5 4", "128 128 -1 128 128": "1 0 2 4 3", "2 130 129 2 -7 1 256 255": "0 2 1 3 4 7 6 5",
	} {
		check(t, read(levels), read(want))
	}
}

// seenAs: a text's characters, column by column.
func seenAs(text string, l []int) string {
	var out []byte
	for _, i := range l {
		out = append(out, text[i])
	}
	return string(out)
}

// P14.1: lines that the published algorithm shows beside its rule L2: great letters go from right to left.
func TestPublished(t *testing.T) {
	for _, x := range []struct{ text, levels, want string }{
		{"car means CAR.", "00000000001110", "car means RAC."},
		{"<car MEANS CAR.=", "0222111111111110", "<.RAC SNAEM car="},
		{"he said `<car MEANS CAR=.' `<IT DOES=,' she agreed.", "000000000022211111111110000001111111000000000000000", "he said `<RAC SNAEM car=.' `<SEOD TI=,' she agreed."},
		{"DID YOU SAY `>he said '<car MEANS CAR='=`?", "111111111111112222222222444333333333322111", "?`=he said '<RAC SNAEM car='>` YAS UOY DID"},
	} {
		var levels []int
		for _, digit := range []byte(x.levels) {
			levels = append(levels, int(digit-'0'))
		}
		l := orderOf(levels)
		if got := seenAs(x.text, l); got != x.want {
			t.Errorf("%s is seen as %s, not %s", x.text, got, x.want)
		}
		check(t, levels, l)
	}
}

// P14.1: each short list of some levels, by the chapter's words.
func TestShortLists(t *testing.T) {
	for _, x := range []struct {
		levels string
		most   int
	}{
		{"0 1", 10}, {"0 1 2", 8}, {"0 1 2 3", 6}, {"0 1 2 3 4 5 6", 5}, {"-1 0 1 2 126 127 128 129", 4}, {"1 3 5", 7}, {"0 2 4", 6}, {"-2 1 4 200", 6},
	} {
		for levels := range sample.Every(read(x.levels), x.most) {
			checkOracle(t, levels)
		}
	}
	for levels := range sample.Every(slices.Concat(below, []int{0, 1, 2, 3, 124, 125, 126}, great), 2) {
		checkOracle(t, levels)
	}
}

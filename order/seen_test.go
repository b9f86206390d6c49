package order_test

import (
	"slices"
	"testing"

	"ductus/api"
	"ductus/order"
	"ductus/sample"
)

// Levels that a character is seen at: 0 to 128, and others, below 0, too.
func someLevels() []int {
	return slices.Concat(after(129), sample.Even(), sample.Odd(), below, great)
}

// P14.1: lines told in full.
func TestSeen(t *testing.T) {
	for _, x := range []struct{ text, levels, want string }{
		{"", "", ""}, {"a", "0", "a"}, {"a", "1", "a"}, {"(", "0", "("}, {"(", "1", ")"}, {"(", "2", "("}, {"abc", "0 0 0", "abc"}, {"abc", "1 1 1", "cba"}, {"abc", "0 1 1", "acb"},
		{"(a)", "0 0 0", "(a)"}, {"(a)", "1 1 1", "(a)"}, {"(a)", "1 2 1", "(a)"}, {"(ab)", "1 2 2 1", "(ab)"}, {"(ab)", "1 1 1 1", "(ba)"}, {"a(b)c", "0 1 1 1 0", "a(b)c"}, {"a(b", "1 1 1", "b)a"}, {"a(b", "0 1 0", "a)b"}, {"a<b", "1 1 1", "b>a"}, {"a<b", "2 2 2", "a<b"}, {"[{<>}]", "1 1 1 1 1 1", "[{<>}]"}, {"[{<>", "1 1 1 1", "<>}]"}, {"(((", "0 1 2", "(()"}, {"(((", "1 0 1", ")()"}, {"[(<{", "3 3 0 1", ")]<}"},
		// By the level as it is handed in: -1 and 129 are odd, -2 and 128 aren't, though all are seen as those of 0 and 127.
		{"a(b", "-1 -1 -1", "a)b"}, {"a(b", "-2 -2 -2", "a(b"}, {"a(b", "128 128 128", "b(a"}, {"a(b", "129 129 129", "b)a"}, {"<(", "128 129", ")<"}, {"<(", "129 128", "(>"}, {"<(", "-1 -2", ">("}, {"<([{", "-3 0 1 256", ">({]"},
	} {
		var chars, want []int
		for _, c := range x.text {
			chars = append(chars, int(c))
		}
		for _, c := range x.want {
			want = append(want, int(c))
		}
		checkSeen(t, chars, read(x.levels), want)
	}
	checkSeen(t, nil, nil, nil)
	checkSeen(t, []int{}, []int{}, nil)
	checkSeen(t, []int{'a', '<', 0x5d0, '(', 'b'}, read("0 0 1 1 0"), []int{'a', '<', ')', 0x5d0, 'b'})
	checkSeen(t, []int{0x5d0, 0xab, 'a', 0x2329, '1', 0x2264, -7}, read("1 1 2 1 2 3 1"), []int{-7, '1', 0x2265, 0x232a, 'a', 0xbb, 0x5d0})
}

// P14.1: none, unless there are as many levels as characters.
func TestOtherManyLevels(t *testing.T) {
	chars := write("L ( R [ EN )")
	for n := range len(chars) + 1 {
		for many := range len(chars) + 6 {
			levels := slices.Repeat([]int{1}, many)
			if many == n {
				checkSeen(t, chars[:n], levels, seenOf(chars[:n], levels))
			} else {
				checkSeen(t, chars[:n], levels, nil)
				checkSeen(t, chars[:n], make([]int, many), nil)
			}
		}
	}
	checkSeen(t, []int{'a'}, nil, nil)
	checkSeen(t, nil, []int{0}, nil)
	checkSeen(t, nil, []int{1, 0}, nil)
	checkSeen(t, []int{'(', 'a'}, make([]int, 1<<16+2), nil)
}

// P14.1: each that is mirrored is its other one at each odd level, and stays at each even one; so beside others, too.
func TestMirroredOnes(t *testing.T) {
	all := mirrored()
	for k, c := range all {
		for _, level := range someLevels() {
			want := c
			if level%2 != 0 {
				want = all[k^1]
			}
			checkSeen(t, []int{c}, []int{level}, []int{want})
			checkSeen(t, []int{c, 'x'}, []int{level, -2}, []int{want, 'x'})
			checkSeen(t, []int{'x', c}, []int{-2, level}, []int{'x', want})
		}
	}
}

// P14.1: those that aren't mirrored stay as they are at all levels, numbers that are no characters among them.
func TestOthersStay(t *testing.T) {
	all := mirrored()
	for _, c := range slices.Concat(sample.All(), below, great, []int{
		0, '\n', ' ', '/', '\\', '|', '\'', '0', 'b', 'd', 'p', 'q', 0x27, 0x2a, 0x3d, 0x5c, 0x7c, 0xaa, 0xac, 0xba, 0xbc, 0x2018, 0x2019, 0x2039, 0x203a, 0x2263, 0x2266, 0x2269, 0x226c, 0x2328, 0x232b, 0x27e8, 0x27e9, 0x3007, 0x3012, 0x3014, 0x3015, 0xff08, 0xff09,
		'(' + 1<<8, '(' + 1<<16, '(' + 1<<32, 0x3008 + 1<<16, 0x3008 + 1<<32, -'(', -'<', api.Top + 1,
	}) {
		if slices.Contains(all, c) {
			continue
		}
		for _, level := range someLevels() {
			checkSeen(t, []int{c}, []int{level}, []int{c})
		}
	}
}

// P14.1: each short list of characters and levels, by the chapter's words.
func TestShortLines(t *testing.T) {
	for chars := range sample.Every([]int{'a', '(', '>', 0x5d0}, 4) {
		for levels := range sample.Every([]int{-1, 0, 1, 2, 128}, 3) {
			checkSeen(t, chars, levels, seenOf(chars, levels))
		}
	}
	for levels := range sample.Every([]int{-1, 0, 1, 2, 3, 128, 129}, 4) {
		chars := []int{'(', '<', 'a', 0xbb}[:len(levels)]
		checkSeen(t, chars, levels, seenOf(chars, levels))
	}
}

// P14.1: mixed lines, by the chapter's words.
func TestMixedLines(t *testing.T) {
	chars := slices.Collect(sample.MixedOf(append(sample.All(), mirrored()...), 2000, 40))
	n := 0
	for levels := range sample.MixedOf(append(someLevels(), slices.Repeat(read("0 1 2 3"), 80)...), 2000, 40) {
		c := chars[n]
		checkSeen(t, c, levels, seenOf(c, levels))
		most := min(len(c), len(levels))
		checkSeen(t, c[:most], levels[:most], seenOf(c[:most], levels[:most]))
		n++
	}
}

// P14.1: what Seen shows is where Of says, mirrored or not.
func TestSeenAsOf(t *testing.T) {
	for levels := range sample.MixedOf(read("-1 0 0 1 1 2 2 3 126 127 128"), 300, 30) {
		chars := make([]int, len(levels))
		for i := range chars {
			chars[i] = 0x4e00 + i
		}
		got, l := order.Seen(chars, levels), order.Of(levels)
		if len(got) != len(l) {
			t.Fatalf("Seen of levels %s: %d, not %d", numbers(levels), len(got), len(l))
		}
		for column, i := range l {
			if got[column] != chars[i] {
				t.Errorf("Seen of levels %s: %x in column %d, not %x", numbers(levels), got[column], column, chars[i])
			}
		}
	}
}

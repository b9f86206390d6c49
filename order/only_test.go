package order_test

import (
	"slices"
	"testing"

	"ductus/order"
	"ductus/sample"
)

// P14.1: as many flags as numbers, fewer and more, and none; numbers below 0, such that have no flag, and such that stand there twice.
func TestOnly(t *testing.T) {
	for _, x := range []struct{ l, keep, want string }{
		{"", "", ""}, {"", "111", ""}, {"0", "", ""}, {"0", "1", "0"}, {"0", "0", ""}, {"0 1 2", "", ""},
		{"0 2 1 3", "1111", "0 2 1 3"}, {"0 2 1 3", "0000", ""}, {"0 2 1 3", "1001", "0 3"}, {"0 2 1 3", "0110", "2 1"}, {"0 2 1 3", "0100", "1"}, {"0 2 1 3", "0010", "2"}, {"3 1 2 0", "1011", "3 2 0"}, {"2 0 1", "101", "2 0"},
		// Fewer flags, and more.
		{"0 2 1 3", "111", "0 2 1"}, {"0 2 1 3", "1", "0"}, {"0 2 1 3", "01", "1"}, {"0 2 1 3", "0", ""}, {"0 2 1 3", "11111", "0 2 1 3"}, {"0 2 1 3", "00001", ""}, {"2 1", "111", "2 1"}, {"2 1", "100", ""}, {"2 1", "001111", "2"},
		// Numbers for which there is no flag.
		{"-1", "1", ""}, {"-1 -2 -3", "111", ""}, {"1", "1", ""}, {"3 -1 0 2 9", "1101", "3 0"}, {"4 3 2 1 0", "1111", "3 2 1 0"}, {"5 0 5", "11111", "0"}, {"-4 0 -1 1", "1111", "0 1"}, {"9 8 7", "11111111", "7"},
		// Numbers twice, and any order.
		{"1 1 1", "01", "1 1 1"}, {"1 1 1", "10", ""}, {"0 1 0 1 2 0", "101", "0 0 2 0"}, {"3 3 0 3 1", "0101", "3 3 3 1"}, {"2 0 2 -1 2", "111", "2 0 2 2"},
	} {
		checkOnly(t, read(x.l), flags(x.keep), read(x.want))
	}
	checkOnly(t, nil, nil, nil)
	checkOnly(t, []int{}, []bool{}, nil)
	checkOnly(t, nil, flags("11"), nil)
	checkOnly(t, read("0 1"), nil, nil)
}

// P14.1: great numbers, and those that would be small in fewer bits, have no flag.
func TestOnlyGreatNumbers(t *testing.T) {
	keep := slices.Repeat([]bool{true}, 4000)
	for _, n := range slices.Concat(below, great) {
		want := []int{7, 3999, 0}
		if n >= 0 && n < 4000 {
			want = []int{7, n, 3999, 0}
		}
		checkOnly(t, []int{7, n, 3999, 4000, 0}, keep, want)
		checkOnly(t, []int{n}, []bool{true, true}, nil)
	}
}

// P14.1: each short list, with each flags, by the chapter's words.
func TestShortOnly(t *testing.T) {
	for l := range sample.Every([]int{-1, 0, 1, 2, 3}, 4) {
		for n := range 5 {
			for signs := range 1 << n {
				keep := make([]bool, n)
				for i := range keep {
					keep[i] = signs>>i&1 == 1
				}
				checkOnly(t, l, keep, onlyOf(l, keep))
			}
		}
	}
}

// P14.1: mixed lists, with mixed flags; all kept is as it was, none is none, and what is kept of what is kept is as it was.
func TestMixedOnly(t *testing.T) {
	var all [][]bool
	for signs := range sample.MixedOf([]int{0, 1, 1}, 1000, 40) {
		keep := make([]bool, len(signs))
		for i := range keep {
			keep[i] = signs[i] == 1
		}
		all = append(all, keep)
	}
	n := 0
	for l := range sample.MixedOf(slices.Concat(after(40), after(20), below, great), 1000, 60) {
		keep := all[n]
		want := onlyOf(l, keep)
		checkOnly(t, l, keep, want)
		checkOnly(t, order.Only(l, keep), keep, want)
		checkOnly(t, l, make([]bool, 50), nil)
		n++
	}
	for n := range 50 {
		for _, l := range [][]int{after(n), turned(after(n))} {
			checkOnly(t, l, slices.Repeat([]bool{true}, n), l)
		}
	}
}

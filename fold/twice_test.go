package fold_test

import (
	"slices"
	"testing"

	"ductus/api"
	"ductus/fold"
)

// checkTwice: c, folded, stays so.
func checkTwice(t *testing.T, c int) {
	t.Helper()
	if to := fold.Of(c); fold.Of(to) != to {
		t.Errorf("%x is folded into %x, that into %x", c, to, fold.Of(to))
	}
}

// checkAlike: c's kin rise, c is one of them, what it is folded into, too; each is folded as c is, and has the same kin.
func checkAlike(t *testing.T, c int) {
	t.Helper()
	kin := fold.Kin(c)
	for i := 1; i < len(kin); i++ {
		if kin[i-1] >= kin[i] {
			t.Errorf("kin of %x don't rise: %x", c, kin)
		}
	}
	if !slices.Contains(kin, c) || !slices.Contains(kin, fold.Of(c)) {
		t.Errorf("%x, or what it is folded into, isn't of its kin: %x", c, kin)
	}
	for _, k := range kin {
		if fold.Of(k) != fold.Of(c) || !fold.Same([]int{k}, []int{c}) {
			t.Errorf("%x is of the kin of %x, but folded into %x", k, c, fold.Of(k))
		}
		if !slices.Equal(fold.Kin(k), kin) {
			t.Errorf("kin of %x: %x; but of %x: %x", c, kin, k, fold.Kin(k))
		}
	}
}

// P4.2: what is folded stays so, for whatever is asked.
func TestTwice(t *testing.T) {
	for _, c := range asked() {
		checkTwice(t, c)
	}
	for c := -0x1000; c <= api.Top+0x1000; c++ {
		checkTwice(t, c)
	}
}

// P4.2: kin are folded alike, for whatever is asked.
func TestAlike(t *testing.T) {
	for _, c := range asked() {
		checkAlike(t, c)
	}
	for c := -0x100; c <= 0x2000; c++ {
		checkAlike(t, c)
	}
	for c := 0x2001; c <= api.Top+0x1000; c += 101 {
		checkAlike(t, c)
	}
}

// P4.2: kin are all that are folded alike: of every character, gathered by what it is folded into.
func TestNoneIsLeftOut(t *testing.T) {
	alike := map[int][]int{}
	for c := -0x100; c <= api.Top; c++ {
		to := fold.Of(c)
		alike[to] = append(alike[to], c)
	}
	how := map[int]int{}
	for to, l := range alike {
		how[len(l)]++
		for _, c := range l {
			if got := fold.Kin(c); !slices.Equal(got, l) {
				t.Errorf("kin of %x, folded into %x: %x, not %x", c, to, got, l)
			}
		}
	}
	// 128 are folded by 20 or 50 more, three alone; two of those three have a great one beside them, which is counted there.
	if how[3] != 2 || how[2] != 127 || len(how) != 3 {
		t.Errorf("so many have so many kin: %v", how)
	}
}

// P4.2: a list that is folded stays so, and is, folded, the same as the one that it was made of.
func TestAllTwice(t *testing.T) {
	var low []int
	for c := -0x100; c <= 0x2000; c++ {
		low = append(low, c)
	}
	for _, l := range [][]int{nil, {'A'}, {'a'}, {'1'}, ends(), ordinary, noCharacters, asked(), low} {
		folded := fold.All(l)
		checkAll(t, folded, folded)
		checkSame(t, l, folded, true)
		checkSame(t, folded, folded, true)
		if len(l) > 0 {
			checkSame(t, l[1:], folded, false)
			checkSame(t, l, folded[:len(l)-1], false)
		}
	}
}

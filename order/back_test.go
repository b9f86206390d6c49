package order_test

import (
	"errors"
	"slices"
	"testing"

	"ductus/api"
	"ductus/order"
	"ductus/sample"
)

// P14.1: no numbers, one, and those that are there once each, in order and in others: for each place its column.
func TestBack(t *testing.T) {
	checkBack(t, nil, true, nil)
	checkBack(t, []int{}, true, nil)
	for l, want := range map[string]string{
		"0": "0", "0 1": "0 1", "1 0": "1 0", "2 0 1": "1 2 0", "1 2 0": "2 0 1", "0 2 1": "0 2 1", "2 1 0": "2 1 0", "1 0 3 2": "1 0 3 2", "3 0 1 2": "1 2 3 0", "1 2 3 0": "3 0 1 2", "0 2 1 3": "0 2 1 3", "4 2 0 1 3": "2 3 1 4 0", "2 0 1 5 3 4": "1 2 0 4 5 3",
	} {
		checkBack(t, read(l), true, read(want))
	}
	for _, n := range []int{1, 2, 3, 8, 256, 257, 4000, 4001, 1 << 16, 1<<16 + 1} {
		checkBack(t, after(n), true, after(n))
		checkBack(t, turned(after(n)), true, turned(after(n)))
	}
}

// P14.1: a number twice, one below 0, one that is how many there are, and one far above.
func TestNotBack(t *testing.T) {
	for _, l := range []string{
		"1", "-1", "2", "0 0", "1 1", "0 2", "2 0", "1 2", "0 -1", "-1 0", "-1 1", "1 -1", "-2 -1", "0 0 1", "0 1 0", "0 1 1", "1 0 1", "2 1 2", "2 2 0", "1 2 3", "0 1 3", "3 0 1", "0 1 -1", "0 1 -2", "-1 0 1", "-3 -2 -1", "0 1 2 2", "0 1 2 4", "3 3 1 0", "0 0 0 0", "1 1 1 1", "4 3 2 1",
	} {
		checkBack(t, read(l), false, nil)
	}
	// At each place of a list that would be right something that isn't.
	for _, n := range []int{1, 2, 3, 5, 9} {
		for i := range n {
			wrong := append(slices.Concat(below, great), n, n+1, 2*n)
			for k := range n {
				if k != i {
					wrong = append(wrong, k)
				}
			}
			for _, other := range wrong {
				for _, l := range [][]int{after(n), turned(after(n))} {
					l[slices.Index(l, i)] = other
					checkBack(t, l, false, nil)
				}
			}
		}
	}
	// One too many, and one missing.
	for n := range 20 {
		for i := range n {
			checkBack(t, append(after(n), i), false, nil)
			if l := slices.Delete(after(n), i, i+1); i < n-1 {
				checkBack(t, l, false, nil)
			}
		}
	}
}

// P14.1: the error is api's own, and there is none beside a list.
func TestBackError(t *testing.T) {
	if l, e := order.Back([]int{1, 1}); !errors.Is(e, api.ErrArg) || len(l) != 0 {
		t.Errorf("%s, %d", numbers(l), e)
	}
	if l, e := order.Back([]int{1, 0}); e != 0 || len(l) != 2 {
		t.Errorf("%s, %d", numbers(l), e)
	}
}

// P14.1: each short list, by the chapter's words; Back of Back is as it was.
func TestShortBacks(t *testing.T) {
	for l := range sample.Every([]int{-1, 0, 1, 2, 3, 4, 5}, 5) {
		checkWords(t, l)
	}
	for l := range sample.Every([]int{0, 1, 2, 3, 4, 5}, 6) {
		checkWords(t, l)
		if !onceEach(l) {
			continue
		}
		columns, _ := order.Back(l)
		checkBack(t, columns, true, l)
	}
}

// P14.1: mixed lists that are mostly wrong, great numbers among them, and orders of mixed levels, that are right.
func TestMixedBacks(t *testing.T) {
	for l := range sample.MixedOf(slices.Concat(below, great, after(9), after(9), after(6)), 3000, 9) {
		checkWords(t, l)
	}
	for levels := range sample.MixedOf(read("0 0 1 1 2 2 3 -1 200"), 500, 300) {
		l := order.Of(levels)
		checkWords(t, l)
		columns, _ := order.Back(l)
		checkBack(t, columns, true, l)
		if len(l) == 0 {
			continue
		}
		l[len(l)/2] = len(l)
		checkBack(t, l, false, nil)
	}
}

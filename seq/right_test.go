package seq_test

import (
	"math"
	"slices"
	"testing"

	"ductus/api"
	"ductus/sample"
	"ductus/seq"
)

func checkRight(t *testing.T, l []api.Seq, n int, want bool) {
	t.Helper()
	if got := seq.Right(l, n); got != want {
		if len(l) > 10 {
			l = l[:10]
		}
		t.Errorf("Right of %s at %d: %v", showSeqs(l), n, got)
	}
}

// at: sequences of places.
func at(lists ...[]int) []api.Seq {
	var out []api.Seq
	for _, l := range lists {
		out = append(out, api.Seq{At: l})
	}
	return out
}

// P8.1: Right of no sequences, and of such without places, at each n.
func TestRightOfNothing(t *testing.T) {
	for _, n := range []int{0, 1, 2, -1, -5, 4000, math.MaxInt, math.MinInt} {
		checkRight(t, nil, n, true)
		checkRight(t, []api.Seq{}, n, true)
		checkRight(t, at(nil), n, true)
		checkRight(t, at(nil, []int{}, nil), n, true)
	}
}

// P8.1: Right at places that are from 0 to below n, or aren't.
func TestRightPlaces(t *testing.T) {
	for _, x := range []struct {
		l    []api.Seq
		n    int
		want bool
	}{
		{at([]int{0}), 1, true}, {at([]int{0, 1, 2}), 3, true}, {at([]int{0, 2}, []int{1}), 3, true}, {at([]int{1}, []int{0, 2}), 3, true}, {at(nil, []int{2}, nil, []int{0}), 3, true},
		// Not each place must be in one.
		{at([]int{5}), 9, true}, {at([]int{1, 5}, []int{3}), 6, true}, {at([]int{0}), math.MaxInt, true}, {at([]int{math.MaxInt - 1}), math.MaxInt, true}, {at([]int{3, 1 << 40}), 1<<40 + 1, true},
		// At n and above it.
		{at([]int{3}), 3, false}, {at([]int{4}), 3, false}, {at([]int{0, 1, 3}), 3, false}, {at([]int{0}, []int{1, 2, 99}), 3, false}, {at([]int{0}, []int{3}), 3, false}, {at([]int{1 << 32}), 1, false}, {at([]int{1<<32 + 1}), 2, false}, {at([]int{math.MaxInt}), math.MaxInt, false},
		// Below 0.
		{at([]int{-1}), 3, false}, {at([]int{-1, 0, 1}), 3, false}, {at([]int{0}, []int{-5}), 3, false}, {at([]int{math.MinInt}), 3, false}, {at([]int{-1 << 32}), 3, false}, {at([]int{-1}), math.MaxInt, false},
		// n of 0, and below it.
		{at([]int{0}), 0, false}, {at([]int{0}), -1, false}, {at([]int{-1}), 0, false}, {at([]int{-1}), -1, false}, {at([]int{-2}), -1, false}, {at([]int{-3, -2}), -1, false}, {at([]int{0}), math.MinInt, false}, {at(nil, []int{0}), 0, false}, {at([]int{-1}), math.MinInt, false},
		// One in two sequences.
		{at([]int{0}, []int{0}), 3, false}, {at([]int{0, 1}, []int{1}), 3, false}, {at([]int{0, 1}, []int{1, 2}), 3, false}, {at([]int{0, 2}, nil, []int{1}, []int{2}), 3, false}, {at([]int{2}, []int{0, 1, 2}), 3, false}, {at([]int{1, 2}, []int{0, 1}), 3, false},
		{at([]int{1 << 40}, []int{1 << 40}), math.MaxInt, false}, {at([]int{5}, []int{1<<32 + 5}), math.MaxInt, true}, {at([]int{5, 1 << 16}, []int{1<<16 + 5}, []int{0, 1 << 32}), math.MaxInt, true},
		// Twice in one.
		{at([]int{0, 0}), 3, false}, {at([]int{0, 1, 1}), 3, false}, {at([]int{0, 1, 0}), 3, false}, {at([]int{0}, []int{1, 2, 2}), 3, false},
		// Falling.
		{at([]int{1, 0}), 3, false}, {at([]int{0, 2, 1}), 3, false}, {at([]int{2, 1, 0}), 3, false}, {at([]int{0}, []int{2, 1}), 3, false}, {at([]int{1, 2, 0}), 3, false},
		// Only the places count.
		{[]api.Seq{{At: []int{0, 2}, Level: -7, Sos: 99, Eos: -99}, {At: []int{1}, Level: 1000, Sos: api.PDI, Eos: api.B}}, 3, true}, {[]api.Seq{{At: []int{3}, Level: 1, Sos: api.R, Eos: api.R}}, 3, false},
	} {
		checkRight(t, x.l, x.n, x.want)
	}
}

// P8.1: Right of each short two lists of places, at each n of some.
func TestRightOfShort(t *testing.T) {
	numbers := []int{-1, 0, 1, 2, 3}
	for a := range sample.Every(numbers, 3) {
		for b := range sample.Every(numbers, 2) {
			for n := -1; n <= 4; n++ {
				checkRight(t, at(a, b), n, mayBe(n, a, b))
			}
		}
	}
}

// mayBe: as the chapter's words say: so many places, in one list at most, which rise in each.
func mayBe(n int, lists ...[]int) bool {
	all := slices.Concat(lists...)
	for i, p := range all {
		if p < 0 || p >= n || slices.Contains(all[:i], p) {
			return false
		}
	}
	for _, l := range lists {
		if !slices.IsSorted(l) {
			return false
		}
	}
	return true
}

// P8.1: Right of long ones: all places, one twice, one more, by turns in many.
func TestRightOfLong(t *testing.T) {
	for _, n := range []int{64, 256, 4001, 1 << 16} {
		all := places(0, n, 1)
		checkRight(t, at(all), n, true)
		checkRight(t, at(all), n-1, false)
		checkRight(t, at(all, []int{n / 2}), n, false)
		checkRight(t, at(all, []int{n}), n, false)
		checkRight(t, at(all, []int{n}), n+1, true)
		turns := at(places(2, n, 3), places(0, n, 3), places(1, n, 3))
		checkRight(t, turns, n, true)
		checkRight(t, append(turns, api.Seq{At: []int{n - 1}}), n, false)
		back := slices.Clone(all)
		slices.Reverse(back)
		checkRight(t, at(back), n, false)
		var one []api.Seq
		for _, p := range back {
			one = append(one, api.Seq{At: []int{p}})
		}
		checkRight(t, one, n, true)
		checkRight(t, append(one, api.Seq{At: []int{0}}), n, false)
	}
}

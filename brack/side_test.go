package brack_test

import (
	"math"
	"slices"
	"testing"

	"ductus/api"
	"ductus/brack"
	"ductus/sample"
)

// No class has this side.
const none = -1

func checkSides(t *testing.T, l []int, from, to int, left, right bool) {
	t.Helper()
	if a, b := brack.Sides(l, from, to); a != left || b != right {
		t.Errorf("Sides of %s, from %d to %d: %v %v, not %v %v", show(l), from, to, a, b, left, right)
	}
}

// P10.1: Side at each class, told in full, and at numbers that are no class.
func TestSide(t *testing.T) {
	want := map[int]int{api.L: api.L, api.R: api.R, api.EN: api.R, api.AN: api.R}
	for _, k := range classes {
		side, ok := want[k]
		if !ok {
			side = none
		}
		if got := brack.Side(k); got != side {
			t.Errorf("Side of %s: %d, not %d", show([]int{k}), got, side)
		}
	}
	for _, k := range noClasses {
		if got := brack.Side(k); got != none {
			t.Errorf("Side of %d: %d", k, got)
		}
	}
	for k := -2000; k < 2000; k++ {
		if got := brack.Side(k); (k < 0 || k > api.PDI) && got != none {
			t.Errorf("Side of %d: %d", k, got)
		}
	}
}

// P10.1: Sides of each class alone, and of what is none.
func TestSidesOfEach(t *testing.T) {
	for _, k := range append(slices.Clone(classes), noClasses...) {
		left, right := k == api.L, k == api.R || k == api.EN || k == api.AN
		checkSides(t, []int{k}, 0, 1, left, right)
		checkSides(t, []int{k}, math.MinInt, math.MaxInt, left, right)
		checkSides(t, []int{k}, 0, 0, false, false)
		checkSides(t, []int{k}, 1, 1, false, false)
		checkSides(t, []int{k, api.ON, k}, 1, 2, false, false)
		checkSides(t, []int{api.L, k, api.L}, 1, 2, left, right)
		checkSides(t, []int{api.R, k, api.R}, 1, 2, left, right)
	}
}

// P10.1: Sides that are told in full: at the empty list, with none, with one side, with both, from below 0, up to beyond all, and crossed.
func TestSidesThatAreTold(t *testing.T) {
	for _, x := range []struct {
		text        string
		from, to    int
		left, right bool
	}{
		{"", 0, 0, false, false}, {"", -1, 1, false, false}, {"", math.MinInt, math.MaxInt, false, false}, {"", 5, -5, false, false},
		{"ON AL WS NSM 99", 0, 5, false, false}, {"ON AL WS NSM 99", -9, 99, false, false},
		{"ON L WS L", 0, 4, true, false}, {"ON R WS EN AN", 0, 5, false, true}, {"AN", 0, 1, false, true}, {"ON EN", 0, 2, false, true},
		{"L R", 0, 2, true, true}, {"R ON L", 0, 3, true, true}, {"AN L", -1, 9, true, true}, {"L EN", 0, 2, true, true},
		{"L ON R", 0, 1, true, false}, {"L ON R", 0, 2, true, false}, {"L ON R", 1, 2, false, false}, {"L ON R", 1, 3, false, true}, {"L ON R", 2, 3, false, true}, {"L ON R", 2, 2, false, false},
		{"L ON R", -5, 1, true, false}, {"L ON R", -5, 0, false, false}, {"L ON R", -5, -1, false, false}, {"L ON R", 2, 99, false, true}, {"L ON R", 3, 99, false, false}, {"L ON R", 99, 100, false, false},
		{"L ON R", 3, 0, false, false}, {"L ON R", 2, 1, false, false}, {"L ON R", 1, 0, false, false}, {"L ON R", 99, -99, false, false}, {"L ON R", math.MaxInt, math.MinInt, false, false},
		{"L ON R", math.MinInt, math.MinInt, false, false}, {"L ON R", math.MaxInt, math.MaxInt, false, false}, {"L ON R", math.MinInt, math.MaxInt, true, true},
	} {
		checkSides(t, read(x.text), x.from, x.to, x.left, x.right)
	}
}

// P10.1: Sides at every beginning and end, of every short list.
func TestSidesOfLists(t *testing.T) {
	far := []int{math.MinInt, math.MinInt32, -1 << 32, -1000, -2, -1, 1000, math.MaxInt32, 1 << 32, math.MaxInt}
	for l := range sample.Every(read("L R ON EN"), 4) {
		ends := append(slices.Clone(far), numbers(len(l)+3)...)
		for _, from := range ends {
			for _, to := range ends {
				var between []int
				for i, k := range l {
					if from <= i && i < to {
						between = append(between, k)
					}
				}
				between = sides(between)
				checkSides(t, l, from, to, slices.Contains(between, api.L), slices.Contains(between, api.R))
			}
		}
	}
}

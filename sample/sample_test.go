package sample_test

import (
	"slices"
	"testing"

	"ductus/api"
	"ductus/sample"
)

// What the other tests lean on: names are read as their classes, numbers as numbers, each as often as it says.
func TestRead(t *testing.T) {
	for _, x := range []struct {
		text string
		want []int
	}{
		{"", nil},
		{"L R ON", []int{api.L, api.R, api.ON}},
		{"RLI 99 -1 PDI", []int{api.RLI, 99, -1, api.PDI}},
		{"RLE*3 L*0 7*2", []int{api.RLE, api.RLE, api.RLE, api.CS, api.CS}},
		{"L R AL EN ES ET AN CS NSM BN B S WS ON LRE LRO RLE RLO PDF LRI RLI FSI PDI", sample.Classes()},
	} {
		if got := sample.Read(x.text); !slices.Equal(got, x.want) {
			t.Errorf("Read of %q: %d, not %d", x.text, got, x.want)
		}
	}
}

// A list that is shown is read as it was.
func TestShow(t *testing.T) {
	for l := range sample.Mixed(nil, 200, 40) {
		if got := sample.Read(sample.Show(l)); !slices.Equal(got, l) {
			t.Errorf("%d is shown as %s", l, sample.Show(l))
		}
	}
	l := sample.NoClasses()
	if got := sample.Read(sample.Show(l)); !slices.Equal(got, l) {
		t.Errorf("%d is shown as %s", l, sample.Show(l))
	}
}

// Each short list is there once, and is left when it is asked for no further.
func TestEvery(t *testing.T) {
	var got [][]int
	for l := range sample.Every([]int{7, 8}, 2) {
		got = append(got, l)
	}
	want := [][]int{nil, {7}, {7, 7}, {7, 8}, {8}, {8, 7}, {8, 8}}
	if !slices.EqualFunc(got, want, slices.Equal) {
		t.Errorf("each list: %d, not %d", got, want)
	}
	for l := range sample.Every([]int{7, 8}, 2) {
		if len(l) == 2 {
			break
		}
	}
}

// Mixed lists are the same ones each time, with all classes in them, and none is too long.
func TestMixed(t *testing.T) {
	collect := func() [][]int { return slices.Collect(sample.Mixed([]int{api.FSI}, 300, 20)) }
	lists := collect()
	if len(lists) != 300 || !slices.EqualFunc(lists, collect(), slices.Equal) {
		t.Errorf("%d lists, not 300 that are the same ones each time", len(lists))
	}
	for _, k := range append(sample.Classes(), sample.NoClasses()[0]) {
		if !slices.ContainsFunc(lists, func(l []int) bool { return slices.Contains(l, k) }) {
			t.Errorf("no list has a %d", k)
		}
	}
	for _, l := range lists {
		if len(l) > 20 {
			t.Errorf("a list of %d", len(l))
		}
	}
}

// Mixed lists of other numbers are of these alone, each of them, the same ones each time, of each length up to the longest.
func TestMixedOf(t *testing.T) {
	from := []int{'a', 'b', 0x202b, -7}
	collect := func() [][]int { return slices.Collect(sample.MixedOf(from, 300, 5)) }
	lists := collect()
	if len(lists) != 300 || !slices.EqualFunc(lists, collect(), slices.Equal) {
		t.Errorf("%d lists, not 300 that are the same ones each time", len(lists))
	}
	all := slices.Sorted(slices.Values(slices.Concat(lists...)))
	if got, want := slices.Compact(all), slices.Sorted(slices.Values(from)); !slices.Equal(got, want) {
		t.Errorf("the lists are of %d, not of %d", got, want)
	}
	long := [6]int{}
	for _, l := range lists {
		long[len(l)]++
	}
	if slices.Contains(long[:], 0) {
		t.Errorf("so many lists have so many: %d", long)
	}
	for l := range sample.MixedOf(from, 300, 5) {
		if len(l) == 2 {
			break
		}
	}
}

// Levels from left to right are even, those from right to left odd, some of each below 0, none twice; directions that count as L are all but R.
func TestLevelsAndDirections(t *testing.T) {
	for n, levels := range [][]int{sample.Even(), sample.Odd()} {
		for _, level := range levels {
			if level&1 != n {
				t.Errorf("%d is among levels of the other direction", level)
			}
		}
		if all := slices.Sorted(slices.Values(levels)); len(slices.Compact(all)) != len(levels) || all[0] >= 0 {
			t.Errorf("levels are %d", levels)
		}
	}
	want := len(sample.Classes()) + len(sample.NoClasses()) - 1
	if lefts := sample.Lefts(); len(lefts) != want || slices.Contains(lefts, api.R) {
		t.Errorf("%d directions count as L, not %d: %d", len(lefts), want, lefts)
	}
}

// A call that leaves all as it was, and answers what is new, has no fault; those have one that change what they are handed, or the room behind it, answer either, or keep it, or what they answered.
func TestFault(t *testing.T) {
	var kept []int
	for _, x := range []struct {
		name string
		want bool
		call func(l []int) []int
	}{
		{"a new list", false, func(l []int) []int { return slices.Clone(l) }},
		{"no list", true, func(l []int) []int { return nil }},
		{"the list", true, func(l []int) []int { return l }},
		{"the room behind it", true, func(l []int) []int { return append(l[len(l):], l...) }},
		{"a new list, the old one changed", true, func(l []int) []int {
			out := slices.Clone(l)
			l[0]++
			return out
		}},
		{"a new list, the room behind the old one changed", true, func(l []int) []int {
			out := slices.Clone(l)
			l[:cap(l)][len(l)]++
			return out
		}},
		{"one list each time", true, func(l []int) []int {
			kept = append(kept[:0], l...)
			return kept
		}},
		{"the first one that was handed in", true, func(l []int) []int {
			if kept == nil {
				kept = l
			}
			return slices.Clone(kept)
		}},
	} {
		kept = nil
		fault := sample.Fault([]int{api.L, api.ON}, []int{api.L, api.ON}, 77, x.call)
		if fault != "" != x.want {
			t.Errorf("of a call that answers %s: %q", x.name, fault)
		}
	}
}

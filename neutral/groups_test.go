package neutral_test

import (
	"slices"
	"testing"

	"ductus/api"
	"ductus/neutral"
	"ductus/sample"
)

func checkGroups(t *testing.T, l []int, want [][2]int) {
	t.Helper()
	if got := neutral.Groups(l); !slices.Equal(got, want) {
		t.Errorf("Groups of %s: %d, not %d", show(l), got, want)
	}
}

// P11.1: Groups that are told in full: of none, at the beginning, at the end, in the middle, of one and of many.
func TestGroups(t *testing.T) {
	checkGroups(t, nil, nil)
	checkGroups(t, []int{}, nil)
	for _, x := range []struct {
		text string
		want [][2]int
	}{
		{"L", nil}, {"L R EN AN", nil}, {show(sideless), nil}, {"NSM L BN PDF 99 -1", nil},
		{"ON", [][2]int{{0, 1}}}, {"ON ON", [][2]int{{0, 2}}}, {"B S WS ON LRI RLI FSI PDI", [][2]int{{0, 8}}},
		{"ON L", [][2]int{{0, 1}}}, {"B WS S L R", [][2]int{{0, 3}}},
		{"L ON", [][2]int{{1, 2}}}, {"L R LRI PDI", [][2]int{{2, 4}}},
		{"L ON R", [][2]int{{1, 2}}}, {"L R RLI FSI S ON EN", [][2]int{{2, 6}}},
		{"ON L ON", [][2]int{{0, 1}, {2, 3}}}, {"ON L L ON", [][2]int{{0, 1}, {3, 4}}}, {"ON WS L B", [][2]int{{0, 2}, {3, 4}}}, {"L ON R WS L", [][2]int{{1, 2}, {3, 4}}},
		{"ON L S B R WS", [][2]int{{0, 1}, {2, 4}, {5, 6}}}, {"R ON ON ON AN B EN S S LRI PDI L", [][2]int{{1, 4}, {5, 6}, {7, 11}}},
		// What isn't neutral parts them, be it left out or no class.
		{"ON BN ON", [][2]int{{0, 1}, {2, 3}}}, {"ON PDF LRE ON", [][2]int{{0, 1}, {3, 4}}}, {"ON NSM ON ON AL ON", [][2]int{{0, 1}, {2, 4}, {5, 6}}}, {"WS 99 WS WS -13 B", [][2]int{{0, 1}, {2, 4}, {5, 6}}},
		{"LRI L PDI", [][2]int{{0, 1}, {2, 3}}}, {"LRI PDI", [][2]int{{0, 2}}}, {"B B", [][2]int{{0, 2}}},
	} {
		checkGroups(t, read(x.text), x.want)
	}
}

// P11.1: Groups with each class, and with what is none.
func TestGroupsOfEach(t *testing.T) {
	for _, k := range neutrals {
		checkGroups(t, []int{k}, [][2]int{{0, 1}})
		checkGroups(t, []int{k, k, k}, [][2]int{{0, 3}})
		checkGroups(t, []int{api.L, k, api.R, k, k}, [][2]int{{1, 2}, {3, 5}})
		checkGroups(t, []int{api.ON, k, api.WS}, [][2]int{{0, 3}})
	}
	for _, k := range append(read("L R EN AN"), sideless...) {
		checkGroups(t, []int{k}, nil)
		checkGroups(t, []int{k, k, k}, nil)
		checkGroups(t, []int{api.ON, k, api.WS}, [][2]int{{0, 1}, {2, 3}})
		checkGroups(t, []int{k, api.ON, api.WS, k}, [][2]int{{1, 3}})
	}
}

// P11.1: Groups of every short list, and of mixed ones.
func TestGroupsOfLists(t *testing.T) {
	check := func(l []int) { checkGroups(t, l, asked{l: l}.groups()) }
	for l := range sample.Every(append(slices.Clone(classes), noClasses[:3]...), 3) {
		check(l)
	}
	for l := range sample.Every(read("L ON WS"), 8) {
		check(l)
	}
	for l := range sample.Every(read("R B"), 12) {
		check(l)
	}
	for _, x := range mixtures {
		for l := range sample.Mixed(slices.Repeat(read(x.common), x.often), 600, 60) {
			check(l)
		}
	}
}

// P11.1: groups of very many, and very many groups.
func TestGroupsOfMany(t *testing.T) {
	for _, n := range []int{api.MaxText, 1 << 16} {
		checkGroups(t, slices.Repeat(read("ON"), n), [][2]int{{0, n}})
		got := neutral.Groups(slices.Repeat(read("WS ON L"), n))
		if len(got) != n || got[0] != [2]int{0, 2} || got[n-1] != [2]int{3 * (n - 1), 3*(n-1) + 2} {
			t.Errorf("%d groups, not %d", len(got), n)
		}
	}
}

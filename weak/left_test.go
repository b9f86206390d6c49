package weak_test

import (
	"slices"
	"testing"

	"ductus/api"
	"ductus/sample"
	"ductus/weak"
)

// gone: what there is none of behind all seven.
var gone = read("NSM AL ES ET CS")

// checkLeft: behind all seven there is no NSM, AL, ES, ET, CS, what was strong or neutral stays (AL as R), and no EN stands behind L.
func checkLeft(t *testing.T, l []int, sos int) {
	t.Helper()
	got := weak.Of(l, sos)
	if len(got) != len(l) {
		t.Fatalf("Of %s, behind %d: %d, not %d", show(l), sos, len(got), len(l))
	}
	last := side(sos)
	for i, k := range l {
		if !slices.Contains(classes, got[i]) || slices.Contains(gone, got[i]) {
			t.Fatalf("Of %s, behind %d: %s: %d is left", show(l), sos, show(got), got[i])
		}
		if want := stays(k); want >= 0 && got[i] != want {
			t.Fatalf("Of %s, behind %d: %s: place %d stays not", show(l), sos, show(got), i)
		}
		if got[i] == api.EN && last == api.L {
			t.Fatalf("Of %s, behind %d: %s: at place %d stands EN behind L", show(l), sos, show(got), i)
		}
		if slices.Contains(strong, got[i]) {
			last = got[i]
		}
	}
}

// stays: what a strong or neutral class is behind all seven; -1 of others.
func stays(k int) int {
	switch {
	case k == api.AL:
		return api.R
	case k < 0, k > api.PDI:
		return api.L
	case slices.Contains(strong, k), slices.Contains(neutral, k):
		return k
	}
	return -1
}

// P9.2: what is left of every short list.
func TestLeftOfShortLists(t *testing.T) {
	for l := range sample.Every(append(slices.Clone(classes), noClasses[0], 99), 3) {
		for _, sos := range []int{api.L, api.R, api.AL, -1} {
			checkLeft(t, l, sos)
		}
	}
	for l := range sample.Every(read("L R AL EN ES ET CS NSM"), 5) {
		checkLeft(t, l, api.L)
		checkLeft(t, l, api.R)
	}
	for l := range sample.Every(read("AL EN AN ET NSM PDI ON"), 5) {
		checkLeft(t, l, api.L)
		checkLeft(t, l, api.R)
	}
	for l := range sample.Every(classes, 1) {
		for _, sos := range ahead {
			checkLeft(t, l, sos)
		}
	}
}

// P9.2: what is left of mixed lists.
func TestLeftOfMixedLists(t *testing.T) {
	for _, x := range mixtures {
		for l := range sample.Mixed(slices.Repeat(read(x.common), x.often), x.many, x.most) {
			for _, sos := range []int{api.L, api.R, api.AL, 99} {
				checkLeft(t, l, sos)
			}
		}
		for l := range sample.Mixed(slices.Repeat(read(x.common), x.often), 3, 1<<16) {
			checkLeft(t, l, api.L)
			checkLeft(t, l, api.R)
		}
	}
}

// P9.2: what is strong or neutral stays whatever stands between, and behind L nothing is EN however far off.
func TestLeftOfStrongAndNeutral(t *testing.T) {
	for _, x := range [][2]string{
		{"L R B S WS ON LRI RLI FSI PDI", "L R B S WS ON LRI RLI FSI PDI"},
		{"AL L AL R AL B AL", "R L R R R B R"},
		{"PDI FSI RLI LRI ON WS S B R L", "PDI FSI RLI LRI ON WS S B R L"},
	} {
		checkOf(t, read(x[0]), api.R, read(x[1]))
		checkOf(t, read(x[0]), api.L, read(x[1]))
		for _, between := range read("EN ES ET AN CS NSM BN PDF") {
			var l []int
			for _, k := range read(x[0]) {
				l = append(l, k, between)
			}
			got := weak.Of(l, api.R)
			for i, want := range read(x[1]) {
				if got[2*i] != want {
					t.Errorf("Of %s: %s: place %d isn't %d", show(l), show(got), 2*i, want)
				}
			}
		}
	}
	for _, n := range []int{1, 63, 1000} {
		for _, between := range read("AN ET CS ES NSM EN ON B BN LRI PDI") {
			checkLeft(t, slices.Concat(read("R L"), slices.Repeat([]int{between}, n), read("EN ET EN")), api.R)
			checkLeft(t, slices.Concat(slices.Repeat([]int{between}, n), read("EN ES EN")), api.L)
		}
	}
}

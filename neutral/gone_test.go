package neutral_test

import (
	"slices"
	"testing"

	"ductus/api"
	"ductus/neutral"
	"ductus/sample"
	"ductus/weak"
)

// checkGone: nothing is neutral any more: what was is L or R, all else is as it was.
func checkGone(t *testing.T, l []int, levels ...int) {
	t.Helper()
	for _, level := range levels {
		for _, sos := range []int{api.L, api.R, 99} {
			for _, eos := range []int{api.L, api.R, api.AL} {
				got := neutral.Of(l, level, sos, eos)
				if len(got) != len(l) {
					t.Fatalf("Of %s: %d, not %d", show(l), len(got), len(l))
				}
				for i, k := range l {
					gone := got[i] == api.L || got[i] == api.R
					if slices.Contains(neutrals, k) && !gone || !slices.Contains(neutrals, k) && got[i] != k {
						t.Fatalf("Of %s, of level %d, behind %d, ahead of %d: %s: place %d", show(l), level, sos, eos, show(got), i)
					}
				}
				if g := neutral.Groups(got); len(g) != 0 {
					t.Fatalf("Groups behind Of %s: %d", show(l), g)
				}
			}
		}
	}
}

// P11.2: every short list.
func TestGoneOfShortLists(t *testing.T) {
	for l := range sample.Every(append(slices.Clone(classes), noClasses[0], 99), 3) {
		checkGone(t, l, 0, 1)
	}
	for _, alphabet := range []string{"L R ON NSM", "EN B LRI AL", "PDI S 99 R"} {
		for l := range sample.Every(read(alphabet), 6) {
			checkGone(t, l, 0, 1)
		}
	}
	for l := range sample.Every(slices.Concat(classes, noClasses), 1) {
		checkGone(t, l, levels...)
	}
}

// P11.2: mixed lists, and long ones.
func TestGoneOfMixedLists(t *testing.T) {
	n := 0
	for _, x := range mixtures {
		common := slices.Repeat(read(x.common), x.often)
		for l := range sample.Mixed(common, 800, 80) {
			checkGone(t, l, even[n%len(even)], odd[n%len(odd)])
			n++
		}
		for l := range sample.Mixed(common, 3, 1<<14) {
			checkGone(t, l, 0, 125)
		}
	}
}

// P11.2: behind layer 9 and this one, of what a sequence may have, there is nothing but L, R, EN and AN.
func TestGoneBehindWeak(t *testing.T) {
	within := read("L R AL EN ES ET AN CS NSM B S WS ON LRI RLI FSI PDI")
	for l := range sample.MixedOf(within, 3000, 40) {
		for _, sos := range []int{api.L, api.R} {
			got := neutral.Of(weak.Of(l, sos), sos, sos, api.R)
			for _, k := range got {
				if !slices.Contains(read("L R EN AN"), k) {
					t.Fatalf("of %s, behind %d, is left: %s", show(l), sos, show(got))
				}
			}
		}
	}
}

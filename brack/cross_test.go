package brack_test

import (
	"slices"
	"strings"
	"testing"

	"ductus/api"
	"ductus/brack"
	"ductus/sample"
)

// checkApart: pairs are of two that belong together, rise, and are within one another, or apart.
func checkApart(t *testing.T, x list) {
	t.Helper()
	pairs := brack.Pairs(x.chars, x.classes)
	for i, p := range pairs {
		if p[0] < 0 || p[0] >= p[1] || p[1] >= len(x.chars) {
			t.Fatalf("Pairs of %v: %d is none", x, p)
		}
		if x.classes[p[0]] != api.ON || x.classes[p[1]] != api.ON || kind(x.chars[p[0]], 0) < 0 || kind(x.chars[p[0]], 0) != kind(x.chars[p[1]], 1) {
			t.Fatalf("Pairs of %v: %d don't belong together", x, p)
		}
		for _, q := range pairs[i+1:] {
			if q[0] <= p[0] || q[0] == p[1] || q[1] == p[1] || q[0] < p[1] && q[1] > p[1] {
				t.Fatalf("Pairs of %v: %d and %d", x, p, q)
			}
		}
	}
}

// checkKept: both of a pair become the same, that is a side, or stay; their marks become it, too, or stay; all else stays. No bracket was NSM at first.
func checkKept(t *testing.T, x list, level, sos int) {
	t.Helper()
	got := brack.Of(x.chars, x.classes, x.first, level, sos)
	if len(got) != len(x.chars) {
		t.Fatalf("Of %v: %d, not %d", x, len(got), len(x.chars))
	}
	want := slices.Clone(x.classes)
	for _, p := range brack.Pairs(x.chars, x.classes) {
		side := got[p[0]]
		if got[p[1]] != side || side != api.ON && side != api.L && side != api.R {
			t.Fatalf("Of %v, at level %d, behind %d: %s: of %d, both aren't the same", x, level, sos, show(got), p)
		}
		if side == api.ON {
			continue
		}
		for _, i := range p {
			want[i] = side
			for i++; i < len(want) && x.first[i] == api.NSM; i++ {
				want[i] = side
			}
		}
	}
	if !slices.Equal(got, want) {
		t.Fatalf("Of %v, at level %d, behind %d: %s: not all else stays", x, level, sos, show(got))
	}
}

func checkBoth(t *testing.T, x list, levels ...int) {
	t.Helper()
	checkApart(t, x)
	for _, level := range levels {
		for _, sos := range []int{api.L, api.R, 99} {
			checkKept(t, x, level, sos)
		}
	}
}

// P10.2: every short list.
func TestCrossOfShortLists(t *testing.T) {
	for _, alphabet := range []struct {
		text string
		most int
	}{{"( ) [ ]", 7}, {"( ) [ ] L R", 5}, {"( ) ] EN ON~ L~", 5}, {"\u2329 \u3008 \u232a \u3009 L ON~", 5}, {everyItem, 3}, {"( ) [ ] {:R }:L L R AN ON~ R~ NSM", 4}} {
		items := parse(alphabet.text)
		for places := range sample.Every(numbers(len(items.chars)), alphabet.most) {
			checkBoth(t, items.chosen(places), 0, 1)
		}
	}
}

// P10.2: mixed lists.
func TestCrossOfMixedLists(t *testing.T) {
	for _, text := range mixtures {
		items := parse(strings.NewReplacer("(~", "ON~", "]~", "L~").Replace(text))
		n := 0
		for places := range sample.MixedOf(numbers(len(items.chars)), 500, 100) {
			checkBoth(t, items.chosen(places), even[n%len(even)], odd[n%len(odd)])
			n++
		}
	}
}

// P10.2: as many within one another as may wait, and more, with marks, and with others that wait in vain.
func TestCrossOfDeepLists(t *testing.T) {
	for n := range 70 {
		for _, x := range [][3]string{{"( ", "L ", ") "}, {"( ON~ R ", "EN ", ") ON~ "}, {"[ ( ", "L ", ") ] ON~ "}, {"( ", "R ", "] ) "}, {"( [ ", "L R ", ") ] "}, {"( ) [ ", "R ", "] ( ) "}} {
			l := parse("R [ L ] " + strings.Repeat(x[0], n) + x[1] + strings.Repeat(x[2], n) + "{ R }")
			checkBoth(t, l, 0, 1)
		}
	}
}

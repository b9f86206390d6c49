package strip_test

import (
	"slices"
	"testing"

	"ductus/sample"
	"ductus/strip"
)

// checkWhole: kept and left out are all, each in its place, Kept rises, and what is kept once more is as kept once. It is told by the calls alone, and by what may be left out.
func checkWhole(t *testing.T, o oracle, l []int) {
	t.Helper()
	kept, chars, only := strip.Kept(l), strip.Chars(l), strip.Only(l)
	if len(kept) != len(chars) || len(chars)+len(only) != len(l) {
		t.Errorf("%x: %d places, %d kept, %d left out, of %d", head(l), len(kept), len(chars), len(only), len(l))
		return
	}
	for i := 1; i < len(kept); i++ {
		if kept[i-1] >= kept[i] {
			t.Errorf("%x: Kept doesn't rise: %d", head(l), head(kept))
		}
	}
	// Put together, each in its place, they are the list.
	k, n := 0, 0
	for i, c := range l {
		switch {
		case k < len(kept) && kept[k] == i:
			if chars[k] != c || o[c] {
				t.Errorf("%x: %x is kept at %d", head(l), chars[k], i)
			}
			k++
		case n < len(only) && only[n] == c && o[c]:
			n++
		default:
			t.Errorf("%x: what stands at %d is neither kept nor left out", head(l), i)
			return
		}
		if got := strip.Rank(l, i+1); got != k {
			t.Errorf("%x: Rank at %d: %d, not %d", head(l), i+1, got, k)
		}
	}
	checkTwice(t, l, kept, chars, only)
}

// checkTwice: of what is kept nothing is left out any more, of what is left out nothing is kept.
func checkTwice(t *testing.T, l, kept, chars, only []int) {
	t.Helper()
	checkList(t, "Chars", chars, strip.Chars(chars), chars)
	checkList(t, "Only", chars, strip.Only(chars), nil)
	checkList(t, "Only", only, strip.Only(only), only)
	checkList(t, "Chars", only, strip.Chars(only), nil)
	checkList(t, "Kept", only, strip.Kept(only), nil)
	places := strip.Kept(chars)
	for i, p := range places {
		if p != i {
			t.Errorf("%x: of what is kept not all is: %d", head(l), head(places))
			break
		}
	}
	if len(places) != len(chars) {
		t.Errorf("%x: of %d that are kept, %d are", head(l), len(chars), len(places))
	}
	// A place that is kept is told by how many are kept ahead of it.
	for i, p := range kept {
		checkRank(t, l, p, i)
	}
	checkSame(t, chars, l, true)
	checkSame(t, only, nil, true)
}

// P7.2: of lists of mixed characters, most of them left out, or kept, or of each as many.
func TestWhole(t *testing.T) {
	o := newOracle()
	for _, from := range [][]int{
		many(),
		append(all(outTable), 'a', alef, -1),
		append(all(keptTable), rle, shy),
		noCharacters,
		all(outTable),
		all(keptTable),
		{'a', rle},
	} {
		for l := range sample.MixedOf(from, 400, 50) {
			checkWhole(t, o, l)
		}
	}
}

// P7.2: of each short list, of the tables' characters, and of long ones.
func TestWholeOfOthers(t *testing.T) {
	o := newOracle()
	for l := range sample.Every([]int{'a', pdi, '\n', pdf, 0}, 5) {
		checkWhole(t, o, l)
	}
	for _, l := range [][]int{nil, {}, all(outTable), all(keptTable), noCharacters, many()} {
		checkWhole(t, o, l)
	}
	for l := range sample.MixedOf(many(), 5, 5000) {
		checkWhole(t, o, l)
		checkWhole(t, o, strip.Chars(l))
		checkWhole(t, o, strip.Only(l))
	}
}

// P7.2: what is kept of two lists, one behind the other, is what is kept of both.
func TestWholeOfParts(t *testing.T) {
	for l := range sample.MixedOf(many(), 200, 20) {
		for i := range len(l) + 1 {
			a, b := l[:i], l[i:]
			checkList(t, "Chars", l, strip.Chars(l), slices.Concat(strip.Chars(a), strip.Chars(b)))
			checkList(t, "Only", l, strip.Only(l), slices.Concat(strip.Only(a), strip.Only(b)))
			checkRank(t, l, i, len(strip.Kept(a)))
		}
	}
}

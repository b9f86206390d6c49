package level_test

import (
	"slices"
	"testing"

	"ductus/api"
	"ductus/level"
	"ductus/sample"
)

// checkMust: each level is from the base to 126, and as its class is: even of L and numbers, odd of R; nothing else is left but what is left out, which has its own class.
func checkMust(t *testing.T, chars []int) {
	t.Helper()
	for _, dir := range dirs {
		levels, base := level.Of(chars, dir)
		told := level.Classes(chars, dir)
		if len(levels) != len(chars) || len(told) != len(chars) || base != 0 && base != 1 {
			t.Fatalf("%s, with %d: %d levels, %d classes, the base %d", show(chars), dir, len(levels), len(told), base)
		}
		for i, n := range levels {
			k := classOf(chars[i])
			as := false
			switch {
			case slices.Contains(read("BN LRE LRO RLE RLO PDF"), k):
				as = told[i] == k
			case told[i] == api.R:
				as = n%2 == 1
			case told[i] == api.L, told[i] == api.EN, told[i] == api.AN:
				as = n%2 == 0
			}
			if !as || n < base || n > 126 {
				t.Fatalf("%s, with %d: place %d has the level %d, and the class %d, of a base of %d", show(chars), dir, i, n, told[i], base)
			}
		}
		// What has a level is one of them, and none is above the greatest.
		if most := level.Most(levels); len(chars) > 0 && !slices.Contains(levels, most) || slices.ContainsFunc(levels, func(n int) bool { return n > most }) {
			t.Fatalf("%s, with %d: the greatest of %s is %d", show(chars), dir, numbers(levels), most)
		}
		if whole := slices.Min(append([]int{200}, levels...)) >= level.Most(levels); len(chars) > 0 && level.Whole(chars, dir) != whole {
			t.Fatalf("%s, with %d: Whole says %t of %s", show(chars), dir, !whole, numbers(levels))
		}
	}
}

// P12.2: each short text, mixed texts, and such behind beginnings that leave little room.
func TestLevelsAreAsTheyMustBe(t *testing.T) {
	for _, x := range alphabets {
		for chars := range sample.Every(write(x.text), x.most-1) {
			checkMust(t, chars)
		}
	}
	beginnings := []string{"RLE*63", "LRE*62", "RLE*62 LRI", "RLI*70", "LRO*61 RLO", "FSI*40 R FSI*40"}
	mixed(100, 60, func(n int, chars []int) {
		checkMust(t, chars)
		checkMust(t, append(write(beginnings[n%len(beginnings)]), chars...))
	})
}

// P12.2: both ends are reached, and the base may be either.
func TestEndsAreReached(t *testing.T) {
	for text, want := range map[string][2]int{"RLE*63 L": {0, 126}, "LRE*62 R EN": {0, 126}, "LRE*62 AN": {0, 126}, "L L": {0, 0}, "RLI*63 L": {0, 126}} {
		levels, base := level.Of(write(text), api.DirLeft)
		if most := level.Most(levels); most != want[1] || slices.Min(levels) != want[0] || base != 0 {
			t.Errorf("%s: %s of %d", text, numbers(levels), base)
		}
	}
	for text, want := range map[string][2]int{"RLE*62 L": {1, 126}, "LRE*62 AN": {1, 126}, "R R": {1, 1}, "L L": {2, 2}} {
		levels, base := level.Of(write(text), api.DirRight)
		if most := level.Most(levels); most != want[1] || slices.Min(levels) != want[0] || base != 1 {
			t.Errorf("%s: %s of %d", text, numbers(levels), base)
		}
	}
}

// P12.2: a text of L alone has level 0 in a base of 0.
func TestLeftAlone(t *testing.T) {
	lefts := letters[api.L]
	check := func(chars []int) {
		t.Helper()
		for _, dir := range append(slices.Clone(looked), left...) {
			levels, base := level.Of(chars, dir)
			if base != 0 || len(levels) != len(chars) || slices.ContainsFunc(levels, func(n int) bool { return n != 0 }) {
				t.Fatalf("%s, with %d: %s of %d", show(chars), dir, numbers(levels), base)
			}
		}
	}
	for chars := range sample.Every(lefts, 3) {
		check(chars)
	}
	for chars := range sample.MixedOf(lefts, 300, 60) {
		check(chars)
	}
	for _, n := range []int{1, 2, 100, api.MaxText, 1 << 16} {
		check(slices.Repeat([]int{'a'}, n))
	}
}

// checkPutIn: with what is left out put in at a place all others have the levels and classes that they had, and the base stays.
func checkPutIn(t *testing.T, chars []int, at, many, c, dir int) {
	t.Helper()
	levels, base := level.Of(chars, dir)
	told := level.Classes(chars, dir)
	more := slices.Insert(slices.Clone(chars), at, slices.Repeat([]int{c}, many)...)
	moreLevels, moreBase := level.Of(more, dir)
	moreTold := level.Classes(more, dir)
	if len(moreLevels) != len(more) || len(moreTold) != len(more) || moreBase != base {
		t.Fatalf("%s, with %d: %d levels, %d classes, the base %d", show(more), dir, len(moreLevels), len(moreTold), moreBase)
	}
	ahead := base
	if at > 0 {
		ahead = levels[at-1]
	}
	if !slices.Equal(moreLevels[at:at+many], slices.Repeat([]int{ahead}, many)) || !slices.Equal(moreTold[at:at+many], slices.Repeat([]int{api.BN}, many)) {
		t.Fatalf("%s, with %d: what is put in at %d has the levels %s, not %d", show(more), dir, at, numbers(moreLevels[at:at+many]), ahead)
	}
	if !slices.Equal(slices.Delete(moreLevels, at, at+many), levels) || !slices.Equal(slices.Delete(moreTold, at, at+many), told) {
		t.Fatalf("%s, with %d: with %d put in at %d, the others haven't the levels and classes %s, %s", show(chars), dir, many, at, numbers(levels), sample.Show(told))
	}
}

// P12.2: a BN, or several, put in at each place of mixed texts, with embeddings and without.
func TestBNChangesNothing(t *testing.T) {
	bns := letters[api.BN]
	n := 0
	for _, text := range []string{"L R AL EN ES ET AN CS NSM B S WS ON LRI RLI FSI PDI ( ) [ ]", "L R WS EN ( )", "RLI FSI PDI L R ( ) NSM", "AL EN CS ET NSM L", "RLE LRO PDF RLI PDI L R BN EN", "B R L FSI BN BN"} {
		for chars := range sample.MixedOf(write(text), 60, 30) {
			for at := range len(chars) + 1 {
				checkPutIn(t, chars, at, 1+n%3, bns[n%len(bns)], dirs[n%len(dirs)])
				n++
			}
		}
	}
	for chars := range sample.Every(write("R EN ( NSM RLI PDI"), 4) {
		for at := range len(chars) + 1 {
			checkPutIn(t, chars, at, 1, bns[0], dirs[at%len(dirs)])
		}
	}
}

// P12.2: where nothing is left out but BN, all others have the levels that they have without them.
func TestWithoutBN(t *testing.T) {
	isBN := func(c int) bool { return classOf(c) == api.BN }
	from := append(write("L R AL EN ES ET AN CS NSM B S WS ON LRI RLI FSI PDI ( ) [ ]"), slices.Repeat(letters[api.BN], 3)...)
	for chars := range sample.MixedOf(from, 1500, 60) {
		for _, dir := range dirs {
			levels, base := level.Of(chars, dir)
			var kept []int
			for i, c := range chars {
				if !isBN(c) {
					kept = append(kept, levels[i])
				}
			}
			want, wantBase := level.Of(slices.DeleteFunc(slices.Clone(chars), isBN), dir)
			if !slices.Equal(kept, want) || base != wantBase {
				t.Fatalf("%s, with %d: %s of %d, without BN %s of %d", show(chars), dir, numbers(kept), base, numbers(want), wantBase)
			}
		}
	}
}

package level_test

import (
	"slices"
	"testing"

	"ductus/api"
	"ductus/level"
	"ductus/sample"
)

// checkOracle: what each call answers of characters is what the chapters' words say, rule by rule.
func checkOracle(t *testing.T, chars []int, dirs ...int) {
	t.Helper()
	for _, dir := range dirs {
		o := newOracle(chars, dir)
		if len(chars) == 0 && dir == api.DirRight {
			// There is no first paragraph of which the base is told.
			o.base = 1
		}
		if !check(t, chars, dir, o.base, o.levels, o.told()) {
			t.FailNow()
		}
	}
}

// Short texts of these, up to so many, are gone through one by one.
var alphabets = []struct {
	text string
	most int
}{
	{"L R AL EN ES ET AN CS NSM BN B S WS ON LRE LRO RLE RLO PDF LRI RLI FSI PDI ( ) [ ]", 3},
	{"L R ON RLI PDI B", 5}, {"L R RLE LRE PDF ON", 5}, {"R EN RLO LRO PDF NSM", 5}, {"( ) [ L R", 5}, {"( ) R EN RLE PDF", 5}, {"AL EN CS ET WS L", 5}, {"FSI R L PDI B", 5}, {"( ) NSM L RLO PDF", 5}, {"( R ) RLI PDI", 6}, {"RLE LRI EN PDI PDF L", 5},
}

// P12.1: every short text of some classes and brackets, with each direction.
func TestShortTexts(t *testing.T) {
	for _, x := range alphabets {
		for chars := range sample.Every(write(x.text), x.most) {
			checkOracle(t, chars, dirs...)
		}
	}
}

// mixtures: what is often met in mixed texts.
var mixtures = []struct {
	text  string
	often int
}{
	{"L", 0}, {"L R", 50}, {"L R WS ON EN CS", 30}, {"R AL EN AN ES ET CS NSM", 30}, {"( ) [ ] L R WS", 30}, {"RLE LRE RLO LRO PDF L R", 30}, {"RLI LRI FSI PDI L R", 30},
	{"RLI LRI FSI PDI RLE LRO PDF L R EN ( ) ON", 25}, {"RLE RLI LRO FSI", 100}, {"( ( [ ) ] NSM R EN RLI PDI", 40}, {"BN PDF L R EN NSM ( )", 40}, {"B L R RLE RLI", 40},
}

// mixed: so many texts of each mixture, of up to so many characters: each letter, and each bracket, and those that are often met.
func mixed(many, most int, yield func(n int, chars []int)) {
	n := 0
	for _, x := range mixtures {
		for chars := range sample.MixedOf(append(all(), slices.Repeat(write(x.text), x.often)...), many, most) {
			yield(n, chars)
			n++
		}
	}
}

// P12.1: mixed texts of all kinds, with each direction.
func TestMixedTexts(t *testing.T) {
	mixed(400, 60, func(n int, chars []int) {
		checkOracle(t, chars, dirs...)
		checkOracle(t, chars, looked[n%len(looked)])
	})
	mixed(2, 800, func(_ int, chars []int) { checkOracle(t, chars, dirs...) })
}

// P12.1: mixed texts behind beginnings that leave little room.
func TestDeepMixedTexts(t *testing.T) {
	beginnings := []string{"RLE*61", "RLE*62 RLI", "LRE*61", "LRE*62 LRI", "RLI*62", "FSI*61", "RLO*61 LRO", "RLE*63 RLI LRE", "R RLI*63 RLE*3", "RLE*62 B LRE*61 FSI"}
	mixed(60, 40, func(n int, chars []int) {
		checkOracle(t, slices.Concat(write(beginnings[n%len(beginnings)]), chars), dirs...)
	})
}

// P12.1: long texts are gone through to the end.
func TestLongTexts(t *testing.T) {
	for _, text := range []string{"L R WS EN", "RLI L PDI", "FSI R", "RLE L PDF", "( R ) NSM", "R (", "RLE", "EN CS ET", "L R B", "BN R BN", "RLI ( L ) PDI WS"} {
		for _, n := range []int{api.MaxText, 1 << 14} {
			chars := slices.Repeat(write(text), n)
			levels, _ := level.Of(chars, api.DirLeft)
			if told := level.Classes(chars, api.DirLeft); len(levels) != len(chars) || len(told) != len(chars) {
				t.Errorf("%d times %s: %d levels, %d classes", n, text, len(levels), len(told))
			}
		}
	}
	chars := slices.Repeat(write("L R ( EN ) B"), 1<<14)
	check(t, chars, api.DirLeft, 0, slices.Repeat(read("0 1 1 2 1 0"), 1<<14), slices.Repeat(read("L R R EN R L"), 1<<14))
}

package pair_test

import (
	"slices"
	"testing"

	"ductus/api"
	"ductus/pair"
)

// checkTwice: mirrored twice c is as it was; so is a bracket's other one's other one, and one of both opens.
func checkTwice(t *testing.T, c int) {
	t.Helper()
	m := pair.Mirror(c)
	if pair.Mirror(m) != c {
		t.Errorf("%x is mirrored into %x, that into %x", c, m, pair.Mirror(m))
	}
	if pair.Mirrored(c) != (m != c) || pair.Mirrored(m) != pair.Mirrored(c) {
		t.Errorf("%x is mirrored into %x, and is mirrored: %v, %v", c, m, pair.Mirrored(c), pair.Mirrored(m))
	}
	o, opens, ok := pair.Other(c)
	if !ok {
		return
	}
	back, opensToo, is := pair.Other(o)
	if !is || back != c || opens == opensToo {
		t.Errorf("%x belongs to %x, that to %x: %v, it opens %v, %v", c, o, back, is, opens, opensToo)
	}
	if o != m {
		t.Errorf("the bracket %x is mirrored into %x, and belongs to %x", c, m, o)
	}
}

// P3.2: twice is once, for whatever is asked.
func TestTwice(t *testing.T) {
	for _, c := range asked() {
		checkTwice(t, c)
	}
	for c := -0x100; c <= 0x3100; c++ {
		checkTwice(t, c)
	}
	for c := 0x3100; c <= api.Top+0x1000; c += 101 {
		checkTwice(t, c)
	}
}

// P3.2: what is plain stays so; and what is mirrored is plain as its other one is.
func TestPlainStays(t *testing.T) {
	var low []int
	for c := -0x100; c <= 0x3100; c++ {
		low = append(low, c)
	}
	for _, l := range [][]int{nil, {')'}, {'('}, {'x'}, told(), ordinary, noCharacters, asked(), low} {
		plain := pair.Plain(l)
		checkPlain(t, plain, plain)
		var turned []int
		for _, c := range l {
			turned = append(turned, pair.Mirror(c))
		}
		checkPlain(t, turned, plain)
		for i, c := range plain {
			if c > l[i] || c != l[i] && c != turned[i] {
				t.Errorf("%x is plain as %x", l[i], c)
			}
		}
	}
}

// P3.2: so many there are: 18 brackets, half of which open, and 26 that are mirrored.
func TestSoMany(t *testing.T) {
	var opening, closing, mirrored []int
	for c := range 0x3100 {
		switch _, opens, ok := pair.Other(c); {
		case ok && opens:
			opening = append(opening, c)
		case ok:
			closing = append(closing, c)
		}
		if pair.Mirrored(c) {
			mirrored = append(mirrored, c)
		}
	}
	if !slices.Equal(opening, []int{0x28, 0x5b, 0x7b, 0x2329, 0x3008, 0x300a, 0x300c, 0x300e, 0x3010}) {
		t.Errorf("open: %x", opening)
	}
	if !slices.Equal(closing, []int{0x29, 0x5d, 0x7d, 0x232a, 0x3009, 0x300b, 0x300d, 0x300f, 0x3011}) {
		t.Errorf("close: %x", closing)
	}
	if len(mirrored) != 26 {
		t.Errorf("mirrored: %x", mirrored)
	}
}

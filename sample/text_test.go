package sample_test

import (
	"math"
	"slices"
	"strings"
	"testing"

	"ductus/api"
	"ductus/sample"
)

// A text names classes, and brackets; each stands there as often as it says.
func TestWrite(t *testing.T) {
	for _, x := range []struct {
		text string
		want []int
	}{
		{"", nil},
		{"L R EN", []int{'a', 0x5d0, '1'}},
		{"( L )*2 RLE*3 ] R*0", []int{'(', 'a', ')', ')', 0x202b, 0x202b, 0x202b, ']'}},
		{"\u2329 \u3009 \u3011 {", []int{0x2329, 0x3009, 0x3011, '{'}},
		{"AL AN ES ET CS NSM BN", []int{0x627, 0x661, '+', '$', ',', 0x301, 0xad}},
		{"B S WS ON LRE LRO RLO PDF", []int{'\n', '\t', ' ', '!', 0x202a, 0x202d, 0x202e, 0x202c}},
		{"LRI RLI FSI PDI", []int{0x2066, 0x2067, 0x2068, 0x2069}},
	} {
		got := sample.Write(x.text)
		if !slices.Equal(got, x.want) {
			t.Errorf("Write of %q: %x, not %x", x.text, got, x.want)
		}
		if again := sample.Write(sample.Text(got)); !slices.Equal(again, x.want) {
			t.Errorf("%x is shown as %s", x.want, sample.Text(got))
		}
	}
	if got := sample.Text([]int{'b', 'Z', 0x5d0, -1}); got != "0x62 0x5a R 0x-1" {
		t.Errorf("what no text names is shown as %s", got)
	}
}

// Each class has letters, of which it is the class; each is there once. What isn't among them is L, numbers that are no characters, too.
func TestLetters(t *testing.T) {
	all := sample.All()
	for k, l := range sample.Letters() {
		if len(l) == 0 {
			t.Errorf("%d has no letter", k)
		}
		for _, c := range l {
			if sample.ClassOf(c) != k || !slices.Contains(all, c) {
				t.Errorf("%x is not %d, but %d", c, k, sample.ClassOf(c))
			}
		}
	}
	if n := len(sample.Letters()); n != len(sample.Classes()) {
		t.Errorf("%d classes have letters", n)
	}
	for _, c := range []int{'b', 0x4e01, -0x5d0, 1<<32 + ' ', math.MaxInt - 1} {
		if k := sample.ClassOf(c); k != api.L {
			t.Errorf("%x is %d", c, k)
		}
	}
	if sorted := slices.Sorted(slices.Values(all)); len(slices.Compact(sorted)) != len(all) {
		t.Errorf("one is there twice: %x", all)
	}
}

// Brackets are ON; each knows which one it is, and whether it opens.
func TestBrackets(t *testing.T) {
	all := sample.All()
	for kind, row := range sample.Couples() {
		for _, couple := range row {
			for end, c := range couple {
				if k, e := sample.Bracket(c); k != kind || e != end || sample.ClassOf(c) != api.ON || !slices.Contains(all, c) {
					t.Errorf("%x: bracket %d, end %d, not %d, %d", c, k, e, kind, end)
				}
			}
		}
	}
	for _, c := range []int{'a', '<', 0xab, -1, 0x2328, 0x3012} {
		if k, _ := sample.Bracket(c); k >= 0 {
			t.Errorf("%x is bracket %d", c, k)
		}
	}
}

// What is handed out is new each time.
func TestLettersAreNew(t *testing.T) {
	sample.Letters()[api.R][0] = 'x'
	sample.Couples()[0][0][0] = 'x'
	sample.All()[0] = 'x'
	if sample.Letters()[api.R][0] != 0x5d0 || sample.Couples()[0][0][0] != '(' || sample.All()[0] != 'a' {
		t.Error("what was handed out is kept")
	}
}

// Of very many the beginning is told, of all others all.
func TestTold(t *testing.T) {
	if got := sample.Numbers([]int{3, -1, 0}); got != "3 -1 0" {
		t.Errorf("numbers are told as %s", got)
	}
	if got := sample.Words([]int{api.L, 99}); got != "L 99" {
		t.Errorf("classes are told as %s", got)
	}
	for n, more := range map[int]bool{200: false, 201: true, 5000: true} {
		for _, told := range []string{sample.Numbers(make([]int, n)), sample.Words(make([]int, n)), sample.Text(make([]int, n))} {
			items := strings.Fields(told)
			if len(items) != min(n, 200)+strings.Count(told, "...") || strings.HasSuffix(told, " ...") != more {
				t.Errorf("of %d are told %d", n, len(items))
			}
		}
	}
}

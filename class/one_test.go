package class_test

import (
	"slices"
	"testing"

	"ductus/api"
	"ductus/class"
)

// P2.2: each number has one class: it is one of 23, with a word, whenever it is asked for, alone and among others.
func TestEachHasOne(t *testing.T) {
	var asked []int
	for c := -0x1000; c <= 0x3100; c++ {
		asked = append(asked, c)
	}
	for c := 0x3100; c <= api.Top+0x1000; c += 97 {
		asked = append(asked, c)
	}
	asked = append(asked, noCharacters...)
	met := make([]bool, 23)
	first := class.All(asked)
	for i, c := range asked {
		k := class.Of(c)
		if k < 0 || k > 22 || class.Word(k) == "" {
			t.Fatalf("%x has the class %d, which is none", c, k)
		}
		if first[i] != k || class.Of(c) != k || !slices.Equal(class.All([]int{c, 'a', c}), []int{k, api.L, k}) {
			t.Fatalf("%x has the class %d, and another one", c, k)
		}
		met[k] = true
	}
	if slices.Contains(met, false) {
		t.Errorf("a class has no character: %v", met)
	}
}

// P2.2: the table says of no character twice what it is.
func TestTableSaysItOnce(t *testing.T) {
	all := spans()
	for i, x := range all {
		if x.low > x.high {
			t.Errorf("%x to %x is nothing", x.low, x.high)
		}
		for _, y := range all[:i] {
			if x.low <= y.high && y.low <= x.high {
				t.Errorf("%x to %x meets %x to %x", x.low, x.high, y.low, y.high)
			}
		}
	}
}

// P2.2: strong, left out and neutral are unlike: no class is two of them, and no two classes have one word.
func TestUnlike(t *testing.T) {
	var words []string
	strong, out, neutral, opens := 0, 0, 0, 0
	for k := -100; k < 1000; k++ {
		n := count(class.Strong(k)) + count(class.Out(k)) + count(class.Neutral(k))
		if n > 1 {
			t.Errorf("%d is %d of strong, left out and neutral", k, n)
		}
		if class.Opens(k) && !class.Neutral(k) {
			t.Errorf("%d opens, and isn't neutral", k)
		}
		strong += count(class.Strong(k))
		out += count(class.Out(k))
		neutral += count(class.Neutral(k))
		opens += count(class.Opens(k))
		if w := class.Word(k); w != "" {
			words = append(words, w)
		}
	}
	if strong != 3 || out != 6 || neutral != 8 || opens != 3 {
		t.Errorf("%d strong, %d left out, %d neutral, %d open", strong, out, neutral, opens)
	}
	slices.Sort(words)
	if len(words) != 23 || len(slices.Compact(words)) != 23 {
		t.Errorf("words: %q", words)
	}
}

func count(is bool) int {
	if is {
		return 1
	}
	return 0
}

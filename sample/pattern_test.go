package sample_test

import (
	"math"
	"slices"
	"testing"

	"ductus/sample"
)

// A text's characters are these, one by one.
func TestChars(t *testing.T) {
	for text, want := range map[string][]int{"": nil, "a": {'a'}, `\[^`: {'\\', '[', '^'}, "a\u05d0\n": {'a', 0x5d0, '\n'}} {
		if got := sample.Chars(text); !slices.Equal(got, want) {
			t.Errorf("Chars of %q: %x, not %x", text, got, want)
		}
	}
}

// A pattern that is shown is told from each other one, also where it has what is no character.
func TestQuoted(t *testing.T) {
	met := map[string]bool{}
	for l := range sample.Every([]int{'a', '<', '>', '1', 0x5d0, 1<<32 + 'a', -1, math.MinInt, '\n', '"'}, 3) {
		text := sample.Quoted(l)
		if met[text] {
			t.Errorf("%x, and another one, are shown as %s", l, text)
		}
		met[text] = true
	}
	if got := sample.Quoted([]int{'a', '\\', -2, 0x5d0}); got != `"a\\<-2><5d0>"` {
		t.Error(got)
	}
}

// Mixed patterns are the same ones each time, made of whole pieces, of none up to the most.
func TestPatterns(t *testing.T) {
	collect := func() [][]int { return slices.Collect(sample.Patterns([]string{"ab", "cd"}, 100, 3)) }
	lists := collect()
	if len(lists) != 100 || !slices.EqualFunc(lists, collect(), slices.Equal) {
		t.Errorf("%d patterns, not 100 that are the same ones each time", len(lists))
	}
	long := [4]int{}
	for _, l := range lists {
		for i := 0; i+1 < len(l); i += 2 {
			if pair := l[i : i+2]; !slices.Equal(pair, sample.Chars("ab")) && !slices.Equal(pair, sample.Chars("cd")) {
				t.Errorf("a pattern %s", sample.Quoted(l))
			}
		}
		long[len(l)/2]++
	}
	if slices.Contains(long[:], 0) {
		t.Errorf("so many patterns have so many pieces: %d", long)
	}
	for l := range sample.Patterns([]string{"ab", "cd"}, 100, 3) {
		if len(l) == 2 {
			break
		}
	}
}

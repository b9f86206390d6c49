package pair_test

import (
	"slices"
	"testing"

	"ductus/pair"
)

// P3.1, by the rules that hold everywhere: what Plain is handed isn't changed nor kept, its spare room neither; its answer is new, though all be plain.
func TestPlainKeepsNothing(t *testing.T) {
	for _, x := range []struct{ l, want []int }{
		{[]int{'a', ')', '>'}, []int{'a', '(', '<'}},
		{[]int{'a', '(', '<'}, []int{'a', '(', '<'}},
		{[]int{'x'}, []int{'x'}},
	} {
		whole := slices.Concat(x.l, []int{')', -7, ')'})
		was := slices.Clone(whole)
		got := pair.Plain(whole[:len(x.l)])
		if !slices.Equal(whole, was) {
			t.Errorf("what was handed in was changed to %x", whole)
		}
		again := pair.Plain(whole[:len(x.l)])
		for _, l := range [][]int{again[:cap(again)], whole} {
			for i := range l {
				l[i] = 99
			}
		}
		pair.Plain([]int{'1', '1', '1', '1', '1', '1'})
		if !slices.Equal(got, x.want) {
			t.Errorf("the answer was changed to %x, not %x", got, x.want)
		}
		for i := range got {
			got[i] = -1
		}
		if slices.Contains(whole, -1) {
			t.Errorf("the answer is what was handed in: %x", whole)
		}
	}
}

// P3.1, by the rules: a call hangs on its arguments alone, whatever was called ahead of it, and however often it is called.
func TestNothingIsKept(t *testing.T) {
	all := facts()
	for range 20 {
		for _, c := range told() {
			checkFact(t, c, factOf(c, all))
			checkNothing(t, 'a')
			checkFact(t, c, factOf(c, all))
			checkNothing(t, -c)
		}
	}
}

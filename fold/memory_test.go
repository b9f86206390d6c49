package fold_test

import (
	"slices"
	"testing"

	"ductus/fold"
)

// P4.1, by the rules that hold everywhere: what All is handed isn't changed nor kept, its spare room neither; its answer is new, though all be folded.
func TestAllKeepsNothing(t *testing.T) {
	for _, x := range []struct{ l, want []int }{
		{[]int{'A', 'b', 0xb5}, []int{'a', 'b', 0x3bc}},
		{[]int{'a', 'b', 0x3bc}, []int{'a', 'b', 0x3bc}},
		{[]int{'1'}, []int{'1'}},
	} {
		whole := slices.Concat(x.l, []int{'Z', -7, 'Z'})
		was := slices.Clone(whole)
		got := fold.All(whole[:len(x.l)])
		if !slices.Equal(whole, was) {
			t.Errorf("what was handed in was changed to %x", whole)
		}
		again := fold.All(whole[:len(x.l)])
		for _, l := range [][]int{again[:cap(again)], whole} {
			for i := range l {
				l[i] = 99
			}
		}
		fold.All([]int{'Z', 'Z', 'Z', 'Z', 'Z', 'Z'})
		if !slices.Equal(got, x.want) {
			t.Errorf("the answer was changed to %x, not %x", got, x.want)
		}
		for i := range got {
			got[i] = -1
		}
		if slices.Contains(whole, -1) {
			t.Errorf("the answer is what was handed in: %x", whole)
		}
	}
}

// P4.1, by the rules: what Same is handed isn't changed.
func TestSameChangesNothing(t *testing.T) {
	a, b := []int{'A', 0x3c2, 'c', 'Z'}, []int{'a', 0x3a3, 'C', 'Y'}
	wasA, wasB := slices.Clone(a), slices.Clone(b)
	checkSame(t, a[:3], b[:3], true)
	checkSame(t, a, b, false)
	if !slices.Equal(a, wasA) || !slices.Equal(b, wasB) {
		t.Errorf("what was handed in was changed to %x and %x", a, b)
	}
}

// P4.1, by the rules: what Kin answers is new each time: whoever changes it changes no other answer.
func TestKinIsNew(t *testing.T) {
	for _, x := range [][]int{{0x3a3, 0x3c2, 0x3c3}, {0xb5, 0x39c, 0x3bc}, {0xdf, 0x1e9e}, {'A', 'a'}, {'1'}, {-1}} {
		for _, c := range x {
			got := fold.Kin(c)
			again := fold.Kin(c)
			again = again[:cap(again)]
			for i := range again {
				again[i] = 99
			}
			if !slices.Equal(got, x) {
				t.Errorf("kin of %x were changed to %x", c, got)
			}
			checkKin(t, c, x...)
		}
	}
}

// P4.1, by the rules: a call hangs on its arguments alone, whatever was called ahead of it, and however often it is called.
func TestNothingIsKept(t *testing.T) {
	o := newOracle()
	for range 20 {
		for _, c := range ends() {
			checkSaid(t, o, c)
			checkItself(t, '1')
			checkSaid(t, o, c)
			checkItself(t, -c)
		}
	}
}

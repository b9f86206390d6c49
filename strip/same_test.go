package strip_test

import (
	"slices"
	"testing"

	"ductus/sample"
)

// P7.1: lists that are unlike in what is left out alone are the same: in how much of it there is, in which, in where it stands, in its order.
func TestUnlikeInWhatIsLeftOut(t *testing.T) {
	for _, x := range [][2][]int{
		{{'a', 'b'}, {rle, 'a', 'b'}},
		{{'a', 'b'}, {'a', rle, 'b'}},
		{{'a', 'b'}, {'a', 'b', rle}},
		{{'a', 'b'}, {lre, rle, 'a', pdf, lro, rlo, 'b', shy, zwsp, bom}},
		{{'a', rle, 'b'}, {'a', pdf, 'b'}},
		{{'a', rle, 'b'}, {rle, 'a', 'b'}},
		{{'a', rle, 'b'}, {'a', 'b', rle}},
		{{rle, pdf, 'a'}, {pdf, rle, 'a'}},
		{{rle, 'a', pdf}, {pdf, 'a', rle}},
		{{shy, 'a'}, {'a', zwsp}},
		{{rle}, {}},
		{{rle}, {pdf, pdf, shy}},
		{{rle, pdf}, {rle, pdf, pdf}},
		{{rle, -1, pdf}, {-1}},
		{{rli, rle, alef, pdf, pdi}, {rli, alef, pdi}},
		{{0, 'a', 1, '\n', 2}, {'a', 8, '\n'}},
		{slices.Repeat([]int{rle, 'a'}, 5000), slices.Repeat([]int{'a', pdf, shy}, 5000)},
		{slices.Repeat([]int{rle}, 9000), {pdf}},
	} {
		checkSame(t, x[0], x[1], true)
	}
	for _, r := range rows(outTable) {
		for _, c := range r.chars {
			for _, l := range [][]int{{c, 'a', alef}, {'a', c, alef}, {'a', alef, c}, {c, c, 'a', c, c, alef, c, c}} {
				checkSame(t, l, []int{'a', alef}, true)
				checkSame(t, l, []int{'a', shy, alef, rlo}, true)
				checkSame(t, l, []int{alef, 'a'}, false)
			}
		}
	}
}

// P7.1: lists that are unlike in what is kept aren't the same: in one character, in their order, in how many there are.
func TestUnlikeInWhatIsKept(t *testing.T) {
	for _, x := range [][2][]int{
		// one character: the first, the last, one between
		{{'a', 'b', 'c'}, {'x', 'b', 'c'}},
		{{'a', 'b', 'c'}, {'a', 'x', 'c'}},
		{{'a', 'b', 'c'}, {'a', 'b', 'x'}},
		{{rle, 'a', pdf, 'b'}, {rle, 'a', pdf, 'c'}},
		{{rle, 'a', pdf, 'b'}, {rle, 'c', pdf, 'b'}},
		// their order
		{{'a', 'b'}, {'b', 'a'}},
		{{'a', 'b', 'b'}, {'b', 'a', 'b'}},
		{{'a', 'b', 'c'}, {'c', 'b', 'a'}},
		{{'a', rle, 'b'}, {'b', rle, 'a'}},
		{{rli, pdi}, {pdi, rli}},
		// how many there are
		{{'a'}, {'a', 'a'}},
		{{'a', 'a', 'b'}, {'a', 'b', 'b'}},
		{{'a', 'a', 'b'}, {'a', 'b'}},
		{{'a', 'b'}, {'a', 'b', 'c'}},
		{{'b', 'c'}, {'a', 'b', 'c'}},
		{{'a', rle, 'b'}, {'a', rle}},
		{{'a', rle, 'b'}, {'a', rle, 'b', 'b'}},
		{{'a', rle}, {'a', 'b'}},
		{{rle, 'a', rle}, {'a', 'a', 'a'}},
		{{rle}, {'a'}},
		{{rle, pdf}, {'a', 'b'}},
		{{}, {0xd800}},
		// what is like in another way isn't the same
		{{'a'}, {'A'}},
		{{'('}, {')'}},
		{{0x2329}, {0x3008}},
		{{0x3c2}, {0x3c3}},
		{{' '}, {0xa0}},
		{{'\n'}, {'\r'}},
		{{alef}, {0x5d1}},
		{{lri}, {rli}},
		{{-1}, {-2}},
		{{-1}, {0xfffd}},
		{{'a'}, {1<<32 + 'a'}},
		{{'a'}, {'a' - 1<<32}},
		{{0xd800}, {0xd801}},
		// and what is kept isn't what is left out
		{{'a', 1<<32 + rle}, {'a', rle}},
		{{-shy}, {shy}},
	} {
		checkSame(t, x[0], x[1], false)
	}
}

// P7.1: lists that are unlike but late, or in their lengths alone.
func TestUnlikeLate(t *testing.T) {
	l := slices.Repeat([]int{rle, 'a', 'b', shy}, 3000)
	checkSame(t, l, slices.Repeat([]int{'a', 'b'}, 3000), true)
	checkSame(t, l, slices.Repeat([]int{'a', 'b'}, 2999), false)
	checkSame(t, l, slices.Repeat([]int{'a', 'b'}, 3001), false)
	for _, i := range []int{1, 2, 4001, 4002, 8001, len(l) - 3, len(l) - 2} {
		other := slices.Clone(l)
		other[i] = 'c'
		checkSame(t, l, other, false)
		other[i] = rle
		checkSame(t, l, other, false)
	}
	for _, i := range []int{0, 3, 4, 4000, 8003, len(l) - 4, len(l) - 1} {
		other := slices.Clone(l)
		other[i] = pdf
		checkSame(t, l, other, true)
		other[i] = 'c'
		checkSame(t, l, other, false)
	}
}

// P7.1: each short list, held against each other one.
func TestEachTwo(t *testing.T) {
	o := newOracle()
	lists := slices.Collect(sample.Every([]int{'a', 'b', rle, shy}, 4))
	for i, a := range lists {
		for _, b := range lists[:i+1] {
			checkSame(t, a, b, o.same(a, b))
		}
	}
}

// P7.1: mixed lists, held against one another, and against such as are unlike them in one place.
func TestMixedTwo(t *testing.T) {
	o := newOracle()
	var last []int
	for l := range sample.MixedOf(many(), 300, 30) {
		checkSame(t, l, last, o.same(l, last))
		last = l
		for i := range l {
			for _, c := range []int{'q', rle, l[0]} {
				other := slices.Clone(l)
				other[i] = c
				checkSame(t, l, other, o.same(l, other))
				other = slices.Insert(slices.Clone(l), i, c)
				checkSame(t, l, other, o.same(l, other))
			}
			other := slices.Delete(slices.Clone(l), i, i+1)
			checkSame(t, l, other, o.same(l, other))
		}
	}
}

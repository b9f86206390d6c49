package weak_test

import (
	"math"
	"slices"

	"ductus/api"
	"ductus/sample"
)

var (
	read, show         = sample.Read, sample.Show
	classes, noClasses = sample.Classes(), sample.NoClasses()
	isolates           = read("LRI RLI FSI PDI")
	strong             = read("L R AL")
	neutral            = read("B S WS ON LRI RLI FSI PDI")
)

// Directions ahead of a list: L, R, all other classes, and what is none: R in fewer bits among them.
var ahead = append(sample.Classes(), sample.NoClasses()...)

// Numbers of rules that there are not; some would be one in 3, 4, 8, 16 or 32 bits.
var noRules = []int{
	0, 8, 9, 10, 14, 15, 16, 17, 23, -1, -2, -7, -8, 71, 256, 257, 263, 1<<16 + 3, 1 << 32, 1<<32 + 1, 1<<32 + 4, -1<<32 + 6, 1<<62 + 7,
	math.MaxInt32, math.MinInt32, math.MaxInt, math.MinInt,
}

// oracle: what the chapter's words say of one place of a list, one rule after the other, however long it takes. Its list is of classes alone, its sos L or R.
type oracle struct {
	l   []int
	sos int
}

func oracleOf(l []int, sos int) oracle {
	o := oracle{slices.Clone(l), api.L}
	if sos == api.R {
		o.sos = api.R
	}
	for i, k := range l {
		if !slices.Contains(classes, k) {
			o.l[i] = api.L
		}
	}
	return o
}

// is: has a place that is in the list one of some classes?
func (o oracle) is(i int, of ...int) bool {
	return i >= 0 && i < len(o.l) && slices.Contains(of, o.l[i])
}

// strong: the first strong one ahead of a place of the list, or behind its last one.
func (o oracle) strong(i int) int {
	for i--; i >= 0; i-- {
		if o.is(i, strong...) {
			return o.l[i]
		}
	}
	return o.sos
}

// strongAt: the same of any place.
func (o oracle) strongAt(i int) int {
	if i < 0 || i > len(o.l) {
		return o.sos
	}
	return o.strong(i)
}

// becomes: what a place becomes by a rule.
func (o oracle) becomes(n, i int) int {
	k := o.l[i]
	switch {
	case n == 1 && k == api.NSM:
		return o.mark(i)
	case n == 2 && k == api.EN && o.strong(i) == api.AL:
		return api.AN
	case n == 3 && k == api.AL:
		return api.R
	case n == 4 && (k == api.ES || k == api.CS):
		return o.separator(i)
	case n == 5 && k == api.ET:
		return o.terminator(i)
	case n == 6 && o.is(i, api.ES, api.ET, api.CS):
		return api.ON
	case n == 7 && k == api.EN && o.strong(i) == api.L:
		return api.L
	}
	return k
}

func (o oracle) mark(i int) int {
	for ; o.is(i, api.NSM); i-- {
		if o.is(i-1, isolates...) {
			return api.ON
		}
	}
	if i < 0 {
		return o.sos
	}
	return o.l[i]
}

func (o oracle) separator(i int) int {
	behind := -1
	if i+1 < len(o.l) {
		behind = o.l[i+1]
	}
	if i == 0 || behind != api.EN && (o.l[i] == api.ES || behind != api.AN) {
		return o.l[i]
	}
	// The one ahead as it has become: that hangs on the one ahead of it, and on this one.
	if o.becomes(4, i-1) == behind {
		return behind
	}
	return o.l[i]
}

func (o oracle) terminator(i int) int {
	from, to := i, i
	for o.is(from, api.ET) {
		from--
	}
	for o.is(to, api.ET) {
		to++
	}
	if o.is(from, api.EN) || o.is(to, api.EN) {
		return api.EN
	}
	return api.ET
}

// rule: the list behind one alone.
func (o oracle) rule(n int) []int {
	var out []int
	for i := range o.l {
		out = append(out, o.becomes(n, i))
	}
	return out
}

// all: the list behind all seven.
func (o oracle) all() []int {
	for n := 1; n <= 7; n++ {
		o.l = o.rule(n)
	}
	return o.l
}

package weak_test

import (
	"slices"
	"testing"

	"ductus/api"
	"ductus/sample"
	"ductus/weak"
)

// Some that are told in full behind all seven: those that change much, and nothing.
var told = []said{
	{"R", "NSM AL EN CS EN ET LRI NSM", "R R AN AN AN ON LRI ON"},
	{"L", "EN ES EN ET R EN ET 99 EN", "L L L L R EN EN L L"},
	{"L", "L R AN ON", "L R AN ON"},
	{"R", "EN", "EN"},
	{"L", "99", "L"},
}

// P9.1, by the rules that hold everywhere: what Of and Rule are handed isn't changed nor kept, its spare room neither; what they answer is new.
func TestNothingIsChanged(t *testing.T) {
	for _, s := range told {
		n, sos := len(read(s.l)), read(s.sos)[0]
		for rule := range 9 {
			checkNew(t, read(s.l), oracleOf(read(s.l), sos).rule(rule), func(l []int) []int { return weak.Rule(l, sos, rule) })
		}
		checkNew(t, read(s.l), read(s.want), func(l []int) []int { return weak.Of(l, sos) })
		l := append(read(s.l), api.R, 77)
		for i := range n + 2 {
			weak.Strong(l[:n], i, sos)
		}
		if !slices.Equal(l, append(read(s.l), api.R, 77)) {
			t.Errorf("Strong changed %s to %s", s.l, show(l))
		}
	}
}

// checkNew: a call's answer is another list than the one it was handed, and than the one it answers another time.
func checkNew(t *testing.T, l, want []int, call func(l []int) []int) {
	t.Helper()
	if fault := sample.Fault(l, want, 77, call); fault != "" {
		t.Errorf("it %s", fault)
	}
}

// P9.1, by the rules: the spare room behind a list isn't of it, nor what stands ahead of it.
func TestSpareRoomIsNotRead(t *testing.T) {
	l := read("LRI NSM EN ES EN ET EN L")
	checkRule(t, l[:4], api.R, 4, read("LRI NSM EN ES"))
	checkRule(t, l[3:5], api.R, 4, read("ES EN"))
	checkRule(t, l[:6][5:], api.R, 5, read("ET"))
	checkRule(t, l[5:6], api.R, 6, read("ON"))
	checkRule(t, l[1:3], api.R, 1, read("R EN"))
	checkRule(t, read("AL EN")[1:], api.R, 2, read("EN"))
	checkRule(t, read("L EN")[1:], api.R, 7, read("EN"))
	checkOf(t, l[1:4], api.R, read("R EN ON"))
	checkOf(t, l[5:6], api.R, read("ON"))
	checkOf(t, l[:0], api.R, nil)
	checkStrong(t, read("L R AL")[:1], 2, api.R, api.R)
	checkStrong(t, read("L R AL")[:2], 3, api.L, api.L)
	checkStrong(t, read("AL ON")[1:], 1, api.R, api.R)
}

// P9.1, by the rules: a call hangs on its arguments alone, whatever was called ahead of it, and however often it is called.
func TestNothingIsKept(t *testing.T) {
	for range 20 {
		for _, s := range told {
			checkOf(t, read(s.l), read(s.sos)[0], read(s.want))
		}
		// What was strong in one list says nothing in another one.
		checkRule(t, read("AL"), api.R, 2, read("AL"))
		checkRule(t, read("EN"), api.R, 2, read("EN"))
		checkRule(t, read("L"), api.R, 7, read("L"))
		checkRule(t, read("EN"), api.R, 7, read("EN"))
		checkRule(t, read("LRI"), api.R, 1, read("LRI"))
		checkRule(t, read("NSM"), api.R, 1, read("R"))
		checkRule(t, read("EN"), api.R, 5, read("EN"))
		checkRule(t, read("ET"), api.R, 5, read("ET"))
		checkStrong(t, read("AL"), 1, api.R, api.AL)
		checkStrong(t, read("ON"), 1, api.R, api.R)
	}
	// The same list, with something else in it.
	l := read("AL EN ET")
	checkOf(t, l, api.R, read("R AN ON"))
	l[0] = api.R
	checkOf(t, l, api.R, read("R EN EN"))
	checkStrong(t, l, 3, api.L, api.R)
	l[0] = api.L
	checkOf(t, l, api.R, read("L L L"))
	checkStrong(t, l, 3, api.R, api.L)
}

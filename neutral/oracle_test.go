package neutral_test

import (
	"slices"

	"ductus/api"
	"ductus/sample"
)

var (
	read, show         = sample.Read, sample.Show
	classes, noClasses = sample.Classes(), sample.NoClasses()
	neutrals           = read("B S WS ON LRI RLI FSI PDI")
	even, odd          = sample.Even(), sample.Odd()
	levels             = slices.Concat(even, odd)
	lefts              = sample.Lefts()
	right              = []int{api.R}
	// Directions ahead and behind: R, L, and others that count as L.
	ends = []int{api.R, api.L, api.AL, api.EN, api.ON, -1, 1<<32 + api.R}
)

// Classes that are neither neutral nor have a side, and numbers that are no class.
var sideless = slices.Concat(read("AL ES ET CS NSM BN LRE LRO RLE RLO PDF"), noClasses)

// asked is what one asks Of.
type asked struct {
	l               []int
	level, sos, eos int
}

// e: the level's direction.
func (a asked) e() int {
	return a.level & 1
}

// end: the direction that one ahead or behind counts as.
func end(n int) int {
	if n == api.R {
		return api.R
	}
	return api.L
}

// side: of a place that isn't neutral, or of what is ahead of all, and behind all.
func (a asked) side(i int) int {
	switch {
	case i < 0:
		return end(a.sos)
	case i >= len(a.l):
		return end(a.eos)
	}
	switch a.l[i] {
	case api.L:
		return api.L
	case api.R, api.EN, api.AN:
		return api.R
	}
	return a.e()
}

func (a asked) isNeutral(i int) bool {
	return i >= 0 && i < len(a.l) && slices.Contains(neutrals, a.l[i])
}

// becomes: what the chapter's words say of one place, however long it takes.
func (a asked) becomes(i int) int {
	if !a.isNeutral(i) {
		return a.l[i]
	}
	ahead, behind := i, i
	for a.isNeutral(ahead) {
		ahead--
	}
	for a.isNeutral(behind) {
		behind++
	}
	if a.side(ahead) != a.side(behind) {
		return a.e()
	}
	return a.side(ahead)
}

// all: what becomes of each place.
func (a asked) all() []int {
	var out []int
	for i := range a.l {
		out = append(out, a.becomes(i))
	}
	return out
}

// groups: where one begins, and where one has ended.
func (a asked) groups() [][2]int {
	var from, to []int
	for i := range len(a.l) + 1 {
		if a.isNeutral(i) && !a.isNeutral(i-1) {
			from = append(from, i)
		}
		if !a.isNeutral(i) && a.isNeutral(i-1) {
			to = append(to, i)
		}
	}
	var out [][2]int
	for n, i := range from {
		out = append(out, [2]int{i, to[n]})
	}
	return out
}

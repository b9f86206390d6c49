package tree

import (
	"cmp"
	"slices"

	"ductus/api"
	"ductus/fold"
	"ductus/pair"
)

// lastTold: no character behind it is folded, folded into, or mirrored, so none of those is asked for.
const lastTold = 0x3011

// least: ranges, however many, as they are least.
func least(l []api.Range) []api.Range {
	var out []api.Range
	for _, r := range rising(l) {
		last := len(out) - 1
		if last >= 0 && r.Low <= out[last].High+1 {
			out[last].High = max(out[last].High, r.High)
		} else {
			out = append(out, r)
		}
	}
	return out
}

// rising: the characters of ranges, by their Low.
func rising(l []api.Range) []api.Range {
	var out []api.Range
	for _, r := range l {
		r = api.Range{Low: max(r.Low, 0), High: min(r.High, api.Top)}
		if r.Low <= r.High {
			out = append(out, r)
		}
	}
	slices.SortFunc(out, func(a, b api.Range) int { return cmp.Compare(a.Low, b.Low) })
	return out
}

// turned: all that a least list hasn't.
func turned(l []api.Range) []api.Range {
	var out []api.Range
	next := 0
	for _, r := range l {
		if next < r.Low {
			out = append(out, api.Range{Low: next, High: r.Low - 1})
		}
		next = r.High + 1
	}
	if next <= api.Top {
		out = append(out, api.Range{Low: next, High: api.Top})
	}
	return out
}

// behind: ranges, and all that flags make of their characters, as they are least.
func behind(l []api.Range, flags int) []api.Range {
	told := teller(flags)
	out := slices.Clone(l)
	for _, r := range l {
		for c := max(r.Low, 0); c <= min(r.High, lastTold); c++ {
			for _, to := range told(c) {
				if !Has(l, to) {
					out = append(out, api.Range{Low: to, High: to})
				}
			}
		}
	}
	return least(out)
}

// teller tells what flags make of a character. Nothing is both folded and mirrored, so once is enough.
func teller(flags int) func(c int) []int {
	return func(c int) []int {
		var out []int
		if flags&api.FlagFold != 0 {
			out = fold.Kin(c)
		}
		if flags&api.FlagMirror != 0 && mayMirror(c) {
			out = append(out, pair.Mirror(c))
		}
		return out
	}
}

// mayMirror: does it stand where some are mirrored? Of the others, most of a great set, it would take too long to ask each.
func mayMirror(c int) bool {
	return c <= 0xbb || 0x2264 <= c && c <= 0x232a || 0x3008 <= c
}

// group: the set of a letter, great or small.
func group(letter int) []api.Range {
	switch letter {
	case 'd', 'D':
		return ranges('0', '9')
	case 's', 'S':
		return ranges(0x9, 0xd, 0x20, 0x20, 0x85, 0x85, 0xa0, 0xa0, 0x2028, 0x2029)
	}
	return ranges(0x30, 0x39, 0x41, 0x5a, 0x5f, 0x5f, 0x61, 0x7a, 0xc0, 0xd6, 0xd8, 0xf6, 0xf8, 0x24f, 0x370, 0x3ff, 0x400, 0x4ff, 0x5d0, 0x5ea, 0x620, 0x64a, 0x660, 0x669)
}

// ranges: of a Low, a High, and so on.
func ranges(ends ...int) []api.Range {
	var out []api.Range
	for i := 0; i < len(ends); i += 2 {
		out = append(out, api.Range{Low: ends[i], High: ends[i+1]})
	}
	return out
}

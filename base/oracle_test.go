package base_test

import (
	"ductus/api"
	"ductus/sample"
)

var (
	read, show, everyList, mixedLists = sample.Read, sample.Show, sample.Every, sample.Mixed
	noClasses                         = sample.NoClasses()
)

func opens(k int) bool {
	return k == api.LRI || k == api.RLI || k == api.FSI
}

// oracle: what the chapter's words say of a list, one word after the other, however long it takes.
type oracle struct {
	l []int
	// ends: of each place where an isolate begins its end; none, if it has none.
	ends map[int]int
}

func newOracle(l []int) oracle {
	o := oracle{l, map[int]int{}}
	// From the last place back: of what begins further behind the end is known.
	for i := len(l) - 1; i >= 0; i-- {
		if opens(l[i]) {
			o.lookForEnd(i)
		}
	}
	return o
}

// lookForEnd: the first PDI behind i, in its paragraph, that isn't the end of an isolate that begins between them.
func (o oracle) lookForEnd(i int) {
	for j := i + 1; j < o.paragraph(i); j++ {
		if o.l[j] == api.PDI && !o.isEnd(j) {
			o.ends[i] = j
			return
		}
	}
}

func (o oracle) isEnd(j int) bool {
	for _, e := range o.ends {
		if e == j {
			return true
		}
	}
	return false
}

// paragraph: where the paragraph of a place ends: at its B, or at the list's end.
func (o oracle) paragraph(i int) int {
	for i < len(o.l) && o.l[i] != api.B {
		i++
	}
	return i
}

func (o oracle) match() []int {
	out := make([]int, len(o.l))
	for i := range out {
		out[i] = -1
	}
	for i, e := range o.ends {
		out[i], out[e] = e, i
	}
	return out
}

func (o oracle) first(from, to int) int {
	from, to = max(from, 0), min(to, len(o.l))
	for i := from; i < min(to, o.paragraph(from)); i++ {
		if n := direction(o.l[i]); n >= 0 && !o.within(i, from, to) {
			return n
		}
	}
	return -1
}

// within: is a place of an isolate that begins from there on?
func (o oracle) within(i, from, to int) bool {
	for k := from; k < i; k++ {
		if !opens(o.l[k]) {
			continue
		}
		e, ok := o.ends[k]
		if ok && i <= e || !ok && i < to {
			return true
		}
	}
	return false
}

func direction(k int) int {
	switch {
	case k < 0, k > 22, k == api.L:
		return 0
	case k == api.R, k == api.AL:
		return 1
	}
	return -1
}

func (o oracle) level(dir int) int {
	if dir == api.DirLeft {
		return 0
	}
	if dir == api.DirRight || o.first(0, o.paragraph(0)) == 1 {
		return 1
	}
	return 0
}

func (o oracle) isolate(i int) int {
	if i < 0 || i >= len(o.l) || !opens(o.l[i]) {
		return -1
	}
	e, ok := o.ends[i]
	if !ok {
		e = o.paragraph(i)
	}
	if o.l[i] == api.RLI || o.l[i] == api.FSI && o.first(i+1, e) == 1 {
		return 1
	}
	return 0
}

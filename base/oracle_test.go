package base_test

import (
	"math"
	"strconv"
	"strings"

	"ductus/api"
)

// The classes' names, each at its class's number.
const words = "L R AL EN ES ET AN CS NSM BN B S WS ON LRE LRO RLE RLO PDF LRI RLI FSI PDI"

// Numbers that are no class; some would be another one in 5, 6, 8, 16 or 32 bits.
var noClasses = []int{
	-1, -2, -api.R, -api.AL, -api.FSI, 23, 24, 31, 32, 32 + api.R, 32 + api.PDI, 64 + api.B, 64 + api.RLI, 128 + api.AL, 255, 256, 256 + api.B, 99, 0x5d0, 0x2067,
	1 << 16, 1<<16 + api.FSI, 1<<32 - 1, 1 << 32, 1<<32 + api.R, 1<<32 + api.B, 1<<32 + api.PDI, -1 << 32, -1<<32 + api.RLI, 1<<62 + api.AL,
	math.MaxInt32, math.MinInt32, math.MaxInt, math.MinInt,
}

// read: a list of classes' names, or numbers, as in "RLI R 99 PDI".
func read(text string) []int {
	var out []int
	for _, item := range strings.Fields(text) {
		out = append(out, readOne(item))
	}
	return out
}

func readOne(item string) int {
	for k, w := range strings.Fields(words) {
		if w == item {
			return k
		}
	}
	n, err := strconv.Atoi(item)
	if err != nil {
		panic(err)
	}
	return n
}

// show: a list as read reads it.
func show(l []int) string {
	names := strings.Fields(words)
	var out []string
	for _, k := range l {
		if k >= 0 && k < len(names) {
			out = append(out, names[k])
		} else {
			out = append(out, strconv.Itoa(k))
		}
	}
	return strings.Join(out, " ")
}

func opens(k int) bool {
	return k == api.LRI || k == api.RLI || k == api.FSI
}

// oracle: what the chapter's words say of a list, one word after the other, however long it takes.
type oracle struct {
	l []int
	// ends: of each place where an isolate begins its end; none, if it has none.
	ends map[int]int
}

func newOracle(l []int) oracle {
	o := oracle{l, map[int]int{}}
	// From the last place back: of what begins further behind the end is known.
	for i := len(l) - 1; i >= 0; i-- {
		if opens(l[i]) {
			o.lookForEnd(i)
		}
	}
	return o
}

// lookForEnd: the first PDI behind i, in its paragraph, that isn't the end of an isolate that begins between them.
func (o oracle) lookForEnd(i int) {
	for j := i + 1; j < o.paragraph(i); j++ {
		if o.l[j] == api.PDI && !o.isEnd(j) {
			o.ends[i] = j
			return
		}
	}
}

func (o oracle) isEnd(j int) bool {
	for _, e := range o.ends {
		if e == j {
			return true
		}
	}
	return false
}

// paragraph: where the paragraph of a place ends: at its B, or at the list's end.
func (o oracle) paragraph(i int) int {
	for i < len(o.l) && o.l[i] != api.B {
		i++
	}
	return i
}

func (o oracle) match() []int {
	out := make([]int, len(o.l))
	for i := range out {
		out[i] = -1
	}
	for i, e := range o.ends {
		out[i], out[e] = e, i
	}
	return out
}

func (o oracle) first(from, to int) int {
	from, to = max(from, 0), min(to, len(o.l))
	for i := from; i < min(to, o.paragraph(from)); i++ {
		if n := direction(o.l[i]); n >= 0 && !o.within(i, from, to) {
			return n
		}
	}
	return -1
}

// within: is a place of an isolate that begins from there on?
func (o oracle) within(i, from, to int) bool {
	for k := from; k < i; k++ {
		if !opens(o.l[k]) {
			continue
		}
		e, ok := o.ends[k]
		if ok && i <= e || !ok && i < to {
			return true
		}
	}
	return false
}

func direction(k int) int {
	switch {
	case k < 0, k > 22, k == api.L:
		return 0
	case k == api.R, k == api.AL:
		return 1
	}
	return -1
}

func (o oracle) level(dir int) int {
	if dir == api.DirLeft {
		return 0
	}
	if dir == api.DirRight || o.first(0, o.paragraph(0)) == 1 {
		return 1
	}
	return 0
}

func (o oracle) isolate(i int) int {
	if i < 0 || i >= len(o.l) || !opens(o.l[i]) {
		return -1
	}
	e, ok := o.ends[i]
	if !ok {
		e = o.paragraph(i)
	}
	if o.l[i] == api.RLI || o.l[i] == api.FSI && o.first(i+1, e) == 1 {
		return 1
	}
	return 0
}

// everyList: each list of up to so many of some classes.
func everyList(classes []int, most int) func(yield func([]int) bool) {
	return func(yield func([]int) bool) {
		goOn(nil, classes, most, yield)
	}
}

func goOn(l, classes []int, most int, yield func([]int) bool) bool {
	if !yield(l) {
		return false
	}
	for _, k := range classes {
		if len(l) < most && !goOn(append(l[:len(l):len(l)], k), classes, most, yield) {
			return false
		}
	}
	return true
}

// mixedLists: so many lists of up to so many of mixed classes, by a rule, always the same ones. The more of each of common there are, the more often it is met.
func mixedLists(common []int, many, most int) func(yield func([]int) bool) {
	return func(yield func([]int) bool) {
		var from []int
		for k := range 23 {
			from = append(from, k)
		}
		from = append(append(from, noClasses[:6]...), common...)
		state := uint64(5)
		next := func(below int) int {
			state = state*6364136223846793005 + 1442695040888963407
			return int(state >> 33 % uint64(below))
		}
		for range many {
			l := make([]int, next(most+1))
			for i := range l {
				l[i] = from[next(len(from))]
			}
			if !yield(l) {
				return
			}
		}
	}
}

package seq_test

import (
	"iter"
	"slices"
	"strconv"
	"strings"

	"ductus/api"
	"ductus/sample"
)

var (
	read, show         = sample.Read, sample.Show
	classes, noClasses = sample.Classes(), sample.NoClasses()
)

// The classes that are left out, that begin isolates, and all others.
var (
	outs   = read("LRE LRO RLE RLO PDF BN")
	opens  = read("LRI RLI FSI")
	others = slices.DeleteFunc(sample.Classes(), func(k int) bool { return slices.Contains(outs, k) || slices.Contains(opens, k) })
)

// showRuns: runs as "0-1 3-3".
func showRuns(l [][2]int) string {
	var out []string
	for _, r := range l {
		out = append(out, strconv.Itoa(r[0])+"-"+strconv.Itoa(r[1]))
	}
	return strings.Join(out, " ")
}

// showSeqs: sequences as "0 2: 0 L L; 1: 1 R R": their places, their level, Sos and Eos.
func showSeqs(l []api.Seq) string {
	var out []string
	for _, s := range l {
		var at []string
		for _, p := range s.At {
			at = append(at, strconv.Itoa(p))
		}
		out = append(out, strings.Join(at, " ")+": "+strconv.Itoa(s.Level)+" "+show([]int{s.Sos, s.Eos}))
	}
	return strings.Join(out, "; ")
}

func sameSeq(a, b api.Seq) bool {
	return slices.Equal(a.At, b.At) && a.Level == b.Level && a.Sos == b.Sos && a.Eos == b.Eos
}

// oracle: what the chapter's words say of lists, one word after the other, however long it takes.
type oracle struct {
	classes, levels []int
	base            int
}

func (o oracle) out(i int) bool {
	return slices.Contains(outs, o.classes[i])
}

// ahead: the next one ahead of a place that isn't left out; -1, if there is none.
func (o oracle) ahead(i int) int {
	for i--; i >= 0 && o.out(i); i-- {
	}
	return i
}

// next: the next one behind a place that isn't left out; -1, if there is none.
func (o oracle) next(i int) int {
	for i++; i < len(o.classes); i++ {
		if !o.out(i) {
			return i
		}
	}
	return -1
}

// begins: is a place the first one of a run?
func (o oracle) begins(i int) bool {
	a := o.ahead(i)
	return a < 0 || o.classes[a] == api.B || o.levels[a] != o.levels[i]
}

// run: the places of the one that begins with a place.
func (o oracle) run(i int) []int {
	out := []int{i}
	for i = o.next(i); i >= 0 && !o.begins(i); i = o.next(i) {
		out = append(out, i)
	}
	return out
}

func (o oracle) runs() [][]int {
	var out [][]int
	if len(o.classes) != len(o.levels) {
		return nil
	}
	for i := range o.classes {
		if !o.out(i) && o.begins(i) {
			out = append(out, o.run(i))
		}
	}
	return out
}

// end: where the isolate ends that begins at a place; -1, if it has no end.
func (o oracle) end(i int) int {
	for j := i + 1; j < len(o.classes); j++ {
		switch k := o.classes[j]; {
		case k == api.B:
			return -1
		case k == api.PDI:
			return j
		case slices.Contains(opens, k):
			// The end of one that begins between isn't this one's.
			if j = o.end(j); j < 0 {
				return -1
			}
		}
	}
	return -1
}

// goesOn: the run that another one goes on in; none, if there is none.
func (o oracle) goesOn(run []int) []int {
	last := run[len(run)-1]
	if !slices.Contains(opens, o.classes[last]) {
		return nil
	}
	e := o.end(last)
	if e < 0 || !o.begins(e) {
		return nil
	}
	return o.run(e)
}

func (o oracle) seqs() []api.Seq {
	var out []api.Seq
	runs := o.runs()
	for _, first := range runs {
		goneOnIn := slices.ContainsFunc(runs, func(r []int) bool {
			next := o.goesOn(r)
			return next != nil && next[0] == first[0]
		})
		if goneOnIn {
			continue
		}
		var at []int
		for r := first; r != nil; r = o.goesOn(r) {
			at = append(at, r...)
		}
		out = append(out, api.Seq{At: at, Level: o.levels[at[0]], Sos: o.sos(at[0]), Eos: o.eos(at[len(at)-1])})
	}
	return out
}

func (o oracle) sos(first int) int {
	other := o.base
	if a := o.ahead(first); a >= 0 {
		other = o.levels[a]
	}
	return greater(o.levels[first], other)
}

func (o oracle) eos(last int) int {
	other := o.base
	k := o.classes[last]
	if n := o.next(last); n >= 0 && k != api.B && !slices.Contains(opens, k) {
		other = o.levels[n]
	}
	return greater(o.levels[last], other)
}

// greater: R, if the greater one of both is odd, else L.
func greater(a, b int) int {
	if b > a {
		a = b
	}
	if a&1 == 1 {
		return api.R
	}
	return api.L
}

// letter is a class with its level.
type letter struct {
	class, level int
}

// letters: each of some classes at each of some levels.
func letters(classes, levels []int) []letter {
	var out []letter
	for _, k := range classes {
		for _, n := range levels {
			out = append(out, letter{k, n})
		}
	}
	return out
}

// spell: lists of numbers of letters as lists of classes and levels.
func spell(of []letter, lists func(numbers []int) iter.Seq[[]int]) iter.Seq2[[]int, []int] {
	return func(yield func(classes, levels []int) bool) {
		var numbers []int
		for n := range of {
			numbers = append(numbers, n)
		}
		for l := range lists(numbers) {
			var classes, levels []int
			for _, n := range l {
				classes, levels = append(classes, of[n].class), append(levels, of[n].level)
			}
			if !yield(classes, levels) {
				return
			}
		}
	}
}

// every: all lists of up to so many letters.
func every(of []letter, most int) iter.Seq2[[]int, []int] {
	return spell(of, func(numbers []int) iter.Seq[[]int] { return sample.Every(numbers, most) })
}

// mixed: so many lists of up to so many mixed letters.
func mixed(of []letter, many, most int) iter.Seq2[[]int, []int] {
	return spell(of, func(numbers []int) iter.Seq[[]int] { return sample.MixedOf(numbers, many, most) })
}

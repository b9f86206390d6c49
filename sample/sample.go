// Package sample has lists for the tests of several layers: those of classes are read and shown by the classes' names, and texts are written by them; of classes, as of other numbers, there is each short one, and there are mixed ones. Patterns are written as texts, and made of pieces; trees are told, shown, and made of some nodes. It tells of a call whether it leaves lists as they were, too. No layer calls it.
package sample

import (
	"iter"
	"math"
	"slices"
	"strconv"
	"strings"

	"ductus/api"
)

// The classes' names, each at its class's number: not layer 2's own, so that a test tells when those are wrong.
const words = "L R AL EN ES ET AN CS NSM BN B S WS ON LRE LRO RLE RLO PDF LRI RLI FSI PDI"

// Classes: each of them, rising.
func Classes() []int {
	var out []int
	for k := range len(strings.Fields(words)) {
		out = append(out, k)
	}
	return out
}

// NoClasses: numbers that are no class; some would be one in 5, 6, 8, 16 or 32 bits.
func NoClasses() []int {
	return []int{
		-1, -2, -api.R, -api.AL, -api.FSI, 23, 24, 31, 32, 32 + api.R, 32 + api.PDI, 64 + api.B, 64 + api.RLI, 128 + api.AL, 255, 256, 256 + api.B, 99, 0x5d0, 0x2067,
		1 << 16, 1<<16 + api.FSI, 1<<32 - 1, 1 << 32, 1<<32 + api.R, 1<<32 + api.B, 1<<32 + api.PDI, -1 << 32, -1<<32 + api.RLI, 1<<62 + api.AL,
		math.MaxInt32, math.MinInt32, math.MaxInt, math.MinInt,
	}
}

// Lefts: directions ahead and behind that count as L: all numbers of both but R.
func Lefts() []int {
	return slices.DeleteFunc(append(Classes(), NoClasses()...), func(k int) bool { return k == api.R })
}

// Even: levels from left to right: small, great, and below 0.
func Even() []int {
	return []int{0, 2, 4, 62, 124, 126, 256, -2, -4, -126, 1 << 32, -1 << 32, 1 << 62, math.MaxInt32 - 1, math.MinInt32, math.MaxInt - 1, math.MinInt}
}

// Odd: levels from right to left; each is one more than one of Even.
func Odd() []int {
	out := Even()
	for i := range out {
		out[i]++
	}
	return out
}

// Read: a list of classes' names, or numbers, as in "RLI R 99 PDI"; each may say how often it stands there, as in "RLE*63 L". What can't be read panics, as that is a test's own fault.
func Read(text string) []int {
	var out []int
	for _, item := range strings.Fields(text) {
		name, count, often := strings.Cut(item, "*")
		n := 1
		if often {
			n = number(count)
		}
		for range n {
			out = append(out, readOne(name))
		}
	}
	return out
}

func readOne(name string) int {
	for k, w := range strings.Fields(words) {
		if w == name {
			return k
		}
	}
	return number(name)
}

func number(text string) int {
	n, err := strconv.Atoi(text)
	if err != nil {
		panic(err)
	}
	return n
}

// Show: a list as Read reads it.
func Show(l []int) string {
	names := strings.Fields(words)
	var out []string
	for _, k := range l {
		if k >= 0 && k < len(names) {
			out = append(out, names[k])
		} else {
			out = append(out, strconv.Itoa(k))
		}
	}
	return strings.Join(out, " ")
}

// Every: each list of up to so many of some numbers.
func Every(numbers []int, most int) iter.Seq[[]int] {
	return func(yield func([]int) bool) {
		goOn(nil, numbers, most, yield)
	}
}

func goOn(l, numbers []int, most int, yield func([]int) bool) bool {
	if !yield(l) {
		return false
	}
	for _, k := range numbers {
		if len(l) < most && !goOn(append(l[:len(l):len(l)], k), numbers, most, yield) {
			return false
		}
	}
	return true
}

// Mixed: so many lists of up to so many of mixed classes, and what is none, by a rule, always the same ones. The more of each of common there are, the more often it is met.
func Mixed(common []int, many, most int) iter.Seq[[]int] {
	return MixedOf(append(append(Classes(), NoClasses()[:6]...), common...), many, most)
}

// MixedOf: so many lists of up to so many of mixed numbers of from, by a rule, always the same ones. The more often one stands in from, the more often it is met.
func MixedOf(from []int, many, most int) iter.Seq[[]int] {
	return func(yield func([]int) bool) {
		state := uint64(5)
		next := func(below int) int {
			state = state*6364136223846793005 + 1442695040888963407
			return int(state >> 33 % uint64(below))
		}
		for range many {
			l := make([]int, next(most+1))
			for i := range l {
				l[i] = from[next(len(from))]
			}
			if !yield(l) {
				return
			}
		}
	}
}

// Fault: what is wrong with a call that is handed a list, with others in the room behind it, and is to answer want: it changes the list or that room, answers either, changes what it answered, or keeps something. One of its answers is filled, to see that. An empty text, if nothing is wrong.
func Fault[T comparable](l []int, want []T, filled T, call func(l []int) []T) string {
	whole := slices.Concat(l, Read("EN ET NSM 99 R ON L"))
	was := slices.Clone(whole)
	got, other := call(whole[:len(l)]), call(whole[:len(l)])
	if !slices.Equal(whole, was) {
		return "changes " + Show(was) + " to " + Show(whole)
	}
	fill(other[:cap(other)], filled)
	if !slices.Equal(whole, was) {
		return "answers what it was handed, " + Show(l) + ", or the room behind it"
	}
	fill(whole, api.B)
	call(Read("AL EN L EN R NSM ET CS ON WS R"))
	if !slices.Equal(got, want) {
		return "changes its answer to " + Show(l)
	}
	if again := call(slices.Clone(l)); !slices.Equal(again, want) {
		return "keeps something from call to call: its answer to " + Show(l) + " is another one"
	}
	return ""
}

func fill[T any](l []T, filled T) {
	for i := range l {
		l[i] = filled
	}
}

package level_test

import (
	"regexp"
	"slices"
	"strings"

	"ductus/api"
)

// oracle: what the chapters' words say of characters, rule by rule, none of the layers being called. What has become of classes is a text with one sign for each place, in which a rule exchanges what it speaks of.
type oracle struct {
	chars, classes []int
	// The levels behind embeddings, and those behind all rules.
	embedded, levels []int
	now              []byte
	base             int
	// ends: of each isolate's beginning that has an end where that is.
	ends map[int]int
}

// Of each class its sign.
const signs = "LRAE+$N,~.BSWO12345ijkp"

// Signs of what is neutral, of isolates' beginnings, and of what is left out.
const (
	neutrals = "BSWOijkp"
	opens    = "ijk"
	outs     = ".12345"
)

func newOracle(chars []int, dir int) oracle {
	o := oracle{chars: chars, ends: map[int]int{}}
	o.embedded, o.levels, o.now = make([]int, len(chars)), make([]int, len(chars)), make([]byte, len(chars))
	for i, c := range chars {
		o.classes = append(o.classes, classOf(c))
		o.now[i] = signs[o.classes[i]]
	}
	from := 0
	for i := range chars {
		if i == len(chars)-1 || o.classes[i] == api.B {
			o.isolates(from, i+1)
			if from == 0 {
				o.base = o.baseOf(i+1, dir)
			}
			o.embed(from, i+1)
			for _, at := range o.sequences(from, i+1) {
				o.resolve(at, from, i+1)
			}
			from = i + 1
		}
	}
	o.follow()
	return o
}

// baseOf: of a text whose first paragraph ends there.
func (o oracle) baseOf(to, dir int) int {
	switch dir {
	case api.DirLeft:
		return 0
	case api.DirRight:
		return 1
	}
	return o.first(0, to)
}

// follow: the levels of what is left out.
func (o oracle) follow() {
	for i := range o.chars {
		switch {
		case !o.out(i):
		case i == 0:
			o.levels[i] = o.base
		default:
			o.levels[i] = o.levels[i-1]
		}
	}
}

// told: the classes behind all rules.
func (o oracle) told() []int {
	var out []int
	for i, sign := range o.now {
		k := strings.IndexByte(signs, sign)
		if o.out(i) {
			k = o.classes[i]
		}
		out = append(out, k)
	}
	return out
}

func (o oracle) is(i int, of string) bool {
	return strings.IndexByte(of, signs[o.classes[i]]) >= 0
}

func (o oracle) out(i int) bool {
	return o.is(i, outs)
}

// isolates: where those of a paragraph end.
func (o oracle) isolates(from, to int) {
	for i := from; i < to; i++ {
		if !o.is(i, opens) {
			continue
		}
		depth := 0
		for j := i; j < to; j++ {
			if o.is(j, opens) {
				depth++
			}
			if o.is(j, "p") {
				depth--
			}
			if depth == 0 {
				o.ends[i] = j
				break
			}
		}
	}
}

// first: the direction of the first strong one that is in no isolate that begins from there on; 0, if there is none.
func (o oracle) first(from, to int) int {
	for i := from; i < to; i++ {
		switch {
		case o.is(i, "L"):
			return 0
		case o.is(i, "RA"):
			return 1
		case o.is(i, opens):
			end, ok := o.ends[i]
			if !ok {
				return 0
			}
			i = end
		}
	}
	return 0
}

// frame is an entry of a stack.
type frame struct {
	level    int
	override string
	isolate  bool
}

// walk is how far rules X1 to X8 have gone in a paragraph, and where that ends.
type walk struct {
	oracle
	to                          int
	stack                       []frame
	isolates, embeddings, valid int
}

// embed: the levels and signs of a paragraph behind embeddings.
func (o oracle) embed(from, to int) {
	w := &walk{oracle: o, to: to, stack: []frame{{level: o.base}}}
	for i := from; i < to; i++ {
		switch w.now[i] {
		case '1':
			w.beginEmbedding(0, "")
		case '2':
			w.beginEmbedding(0, "L")
		case '3':
			w.beginEmbedding(1, "")
		case '4':
			w.beginEmbedding(1, "R")
		case '5':
			w.endEmbedding()
		case 'i', 'j', 'k':
			w.tell(i)
			w.beginIsolate(i)
		case 'p':
			w.endIsolate()
			w.tell(i)
		case 'B':
			w.embedded[i] = w.base
		case '.':
		default:
			w.tell(i)
		}
	}
}

func (w *walk) last() frame {
	return w.stack[len(w.stack)-1]
}

func (w *walk) tell(i int) {
	w.embedded[i] = w.last().level
	if w.last().override != "" {
		w.now[i] = w.last().override[0]
	}
}

// push: false where there is no room.
func (w *walk) push(dir int, override string, isolate bool) bool {
	level := w.last().level + 1
	for level%2 != dir {
		level++
	}
	if level > 125 || w.isolates > 0 || w.embeddings > 0 {
		return false
	}
	w.stack = append(w.stack, frame{level, override, isolate})
	return true
}

func (w *walk) beginEmbedding(dir int, override string) {
	if !w.push(dir, override, false) && w.isolates == 0 {
		w.embeddings++
	}
}

func (w *walk) endEmbedding() {
	switch {
	case w.isolates > 0:
	case w.embeddings > 0:
		w.embeddings--
	case len(w.stack) > 1 && !w.last().isolate:
		w.stack = w.stack[:len(w.stack)-1]
	}
}

func (w *walk) beginIsolate(i int) {
	if w.push(w.direction(i, w.to), "", true) {
		w.valid++
	} else {
		w.isolates++
	}
}

func (w *walk) endIsolate() {
	switch {
	case w.isolates > 0:
		w.isolates--
	case w.valid > 0:
		w.embeddings = 0
		w.valid--
		for !w.last().isolate {
			w.stack = w.stack[:len(w.stack)-1]
		}
		w.stack = w.stack[:len(w.stack)-1]
	}
}

// direction: of an isolate that begins there, in a paragraph that ends there.
func (o oracle) direction(i, to int) int {
	if end, ok := o.ends[i]; ok {
		to = end
	}
	switch {
	case o.is(i, "i"):
		return 0
	case o.is(i, "j"):
		return 1
	}
	return o.first(i+1, to)
}

// sequences: the places of each of a paragraph's.
func (o oracle) sequences(from, to int) [][]int {
	var kept []int
	for i := from; i < to; i++ {
		if !o.out(i) {
			kept = append(kept, i)
		}
	}
	// What comes next in its sequence, of each place: the next one of its level, or where the isolate ends that begins there.
	next, goesOn := map[int]int{}, map[int]int{}
	for n, i := range kept {
		if n+1 < len(kept) && o.embedded[kept[n+1]] == o.embedded[i] {
			next[i] = kept[n+1]
			goesOn[kept[n+1]]++
		}
	}
	for i, end := range o.ends {
		if _, within := next[i]; !within && from <= i && i < to && goesOn[end] == 0 {
			next[i] = end
			goesOn[end]++
		}
	}
	var out [][]int
	for _, i := range kept {
		if goesOn[i] > 0 {
			continue
		}
		at := []int{i}
		for j, ok := next[i]; ok; j, ok = next[j] {
			at = append(at, j)
		}
		out = append(out, at)
	}
	return out
}

// resolve: the levels and signs of a sequence's places.
func (o oracle) resolve(at []int, from, to int) {
	level := o.embedded[at[0]]
	ahead, behind := o.base, o.base
	for i := from; i < at[0]; i++ {
		if !o.out(i) {
			ahead = o.embedded[i]
		}
	}
	last := at[len(at)-1]
	for i := to - 1; i > last && !o.is(last, opens); i-- {
		if !o.out(i) {
			behind = o.embedded[i]
		}
	}
	// Signs of what is ahead, and of what is behind.
	sos, eos := side(max(level, ahead)), side(max(level, behind))
	var chars []int
	first := ""
	for _, i := range at {
		chars = append(chars, o.chars[i])
		first += string(o.now[i])
	}
	s := weak(sos, first)
	s = brackets(chars, first, s, side(level), sos)
	s = neutral(sos, s, eos, side(level))
	for n, i := range at {
		o.now[i] = s[n]
		o.levels[i] = raised(s[n:n+1], level)
	}
}

// raised: rules I1 and I2.
func raised(sign string, level int) int {
	switch side(level) + sign {
	case "LR", "RL", "RE", "RN":
		return level + 1
	case "LE", "LN":
		return level + 2
	}
	return level
}

// side: the direction of a level.
func side(level int) string {
	return "LR"[level%2 : level%2+1]
}

var (
	arabic      = regexp.MustCompile(`(A[^LRA]*)E`)
	latin       = regexp.MustCompile(`(L[^LR]*)E`)
	groups      = regexp.MustCompile("[" + neutrals + "]+")
	separators  = strings.NewReplacer("E+E", "EEE", "E,E", "EEE", "N,N", "NNN")
	terminators = strings.NewReplacer("E$", "EE", "$E", "EE")
	others      = strings.NewReplacer("+", "O", "$", "O", ",", "O")
)

// weak: rules W1 to W7, sos being a sign ahead of all.
func weak(sos, s string) string {
	s = sos + s
	for i := strings.Index(s, "~"); i > 0; i = strings.Index(s, "~") {
		to := s[i-1 : i]
		if strings.Contains(opens+"p", to) {
			to = "O"
		}
		s = s[:i] + to + s[i+1:]
	}
	s = untilItStays(s, func(s string) string { return arabic.ReplaceAllString(s, "${1}N") })
	s = strings.ReplaceAll(s, "A", "R")
	s = untilItStays(s, separators.Replace)
	s = untilItStays(s, terminators.Replace)
	s = others.Replace(s)
	s = untilItStays(s, func(s string) string { return latin.ReplaceAllString(s, "${1}L") })
	return s[1:]
}

func untilItStays(s string, once func(string) string) string {
	for behind := once(s); behind != s; behind = once(s) {
		s = behind
	}
	return s
}

// brackets: rule N0, pair by pair; first is what there was ahead of rule W1.
func brackets(chars []int, first, s, e, sos string) string {
	for _, p := range pairs(chars, s) {
		within, ahead := sides(s[p[0]+1:p[1]]), sides(sos+s[:p[0]])
		to := ahead[len(ahead)-1:]
		if strings.Contains(within, e) {
			to = e
		}
		if within == "" {
			continue
		}
		for _, i := range p {
			marks := len(first[i+1:]) - len(strings.TrimLeft(first[i+1:], "~"))
			s = s[:i] + strings.Repeat(to, 1+marks) + s[i+1+marks:]
		}
	}
	return s
}

// sides: of all that have one, in order.
func sides(s string) string {
	return strings.Map(func(c rune) rune {
		switch c {
		case 'L':
			return 'L'
		case 'R', 'E', 'N':
			return 'R'
		}
		return -1
	}, s)
}

// pairs: those of brackets that belong together, by the first of both.
func pairs(chars []int, s string) [][2]int {
	var waits []int
	ends := make([]int, len(chars))
	for i, c := range chars {
		kind, end := bracket(c)
		if kind < 0 || s[i] != 'O' {
			continue
		}
		if end == 0 {
			if len(waits) == 63 {
				break
			}
			waits = append(waits, i)
			continue
		}
		for n := len(waits) - 1; n >= 0; n-- {
			if other, _ := bracket(chars[waits[n]]); other == kind {
				ends[waits[n]] = i
				waits = waits[:n]
				break
			}
		}
	}
	var out [][2]int
	for i, end := range ends {
		if end > 0 {
			out = append(out, [2]int{i, end})
		}
	}
	return out
}

// neutral: rules N1 and N2, with signs ahead and behind.
func neutral(sos, s, eos, e string) string {
	b := []byte(s)
	s = sos + s + eos
	for _, g := range groups.FindAllStringIndex(s, -1) {
		to := e
		if ahead, behind := sides(s[g[0]-1:g[0]]), sides(s[g[1]:g[1]+1]); ahead == behind {
			to = ahead
		}
		copy(b[g[0]-1:], slices.Repeat([]byte(to), g[1]-g[0]))
	}
	return string(b)
}

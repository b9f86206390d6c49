package explicit_test

import (
	"slices"

	"ductus/api"
	"ductus/base"
	"ductus/sample"
)

var (
	read, show, everyList, mixedLists = sample.Read, sample.Show, sample.Every, sample.Mixed
	classes, noClasses                = sample.Classes(), sample.NoClasses()
)

// The directions of an override, and of a next level.
const (
	left  = "left"
	right = "right"
)

// frame is an entry of the oracle's stack.
type frame struct {
	level    int
	override string
	isolate  bool
}

// moment is all that is known ahead of a place, by the chapter's words; it is never changed, each place makes a new one.
type moment struct {
	stack                       []frame
	isolates, embeddings, valid int
}

// oracle: what the chapter's words say of a list, one bullet after the other.
func oracle(l []int, dir int) (levels, told []int, depth int) {
	if dir != 0 {
		dir = 1
	}
	start := moment{stack: []frame{{level: dir}}}
	now := start
	depth = 1
	for i, k := range l {
		if k < 0 || k > 22 {
			k = api.L
		}
		behind := start
		if k != api.B {
			behind = now.behind(l, i)
		}
		// Of what stands outside of what it begins, or is left out, the one ahead says, of all others the one behind.
		by := behind
		switch k {
		case api.RLE, api.LRE, api.RLO, api.LRO, api.PDF, api.BN, api.RLI, api.LRI, api.FSI:
			by = now
		}
		levels = append(levels, by.last().level)
		told = append(told, by.told(k))
		now = behind
		depth = max(depth, len(now.stack))
	}
	return levels, told, depth
}

func (m moment) last() frame {
	return m.stack[len(m.stack)-1]
}

func (m moment) told(k int) int {
	switch k {
	case api.RLE, api.LRE, api.RLO, api.LRO, api.PDF, api.BN, api.B:
		return k
	}
	switch m.last().override {
	case left:
		return api.L
	case right:
		return api.R
	}
	return k
}

func (m moment) behind(l []int, i int) moment {
	switch l[i] {
	case api.RLE:
		return m.embedding(right, "")
	case api.LRE:
		return m.embedding(left, "")
	case api.RLO:
		return m.embedding(right, right)
	case api.LRO:
		return m.embedding(left, left)
	case api.RLI:
		return m.begunIsolate(right)
	case api.LRI:
		return m.begunIsolate(left)
	case api.FSI:
		return m.begunIsolate([]string{left, right}[base.Isolate(l, i)])
	case api.PDI:
		return m.endedIsolate()
	case api.PDF:
		return m.endedEmbedding()
	}
	return m
}

// next: the least level above the last one's of a direction, looked for one by one.
func (m moment) next(dir string) int {
	n := m.last().level + 1
	for n%2 != map[string]int{left: 0, right: 1}[dir] {
		n++
	}
	return n
}

func (m moment) room(dir string) bool {
	return m.next(dir) <= 125 && m.isolates == 0 && m.embeddings == 0
}

func (m moment) with(f frame) moment {
	m.stack = append(slices.Clone(m.stack), f)
	return m
}

func (m moment) embedding(dir, override string) moment {
	if m.room(dir) {
		return m.with(frame{m.next(dir), override, false})
	}
	if m.isolates == 0 {
		m.embeddings++
	}
	return m
}

func (m moment) begunIsolate(dir string) moment {
	if m.room(dir) {
		m.valid++
		return m.with(frame{m.next(dir), "", true})
	}
	m.isolates++
	return m
}

func (m moment) endedIsolate() moment {
	if m.isolates > 0 {
		m.isolates--
		return m
	}
	if m.valid == 0 {
		return m
	}
	m.embeddings = 0
	m.valid--
	for at := len(m.stack) - 1; ; at-- {
		if m.stack[at].isolate {
			m.stack = m.stack[:at]
			return m
		}
	}
}

func (m moment) endedEmbedding() moment {
	if m.isolates > 0 {
		return m
	}
	if m.embeddings > 0 {
		m.embeddings--
		return m
	}
	if !m.last().isolate && len(m.stack) > 1 {
		m.stack = m.stack[:len(m.stack)-1]
	}
	return m
}

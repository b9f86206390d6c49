package show

import (
	"slices"

	"ductus/api"
	"ductus/tree"
)

// What a tree that may be shown has at most.
const (
	mostNodes  = 400
	mostRanges = 400
	mostDeep   = 100
)

// meter counts what was met of a tree.
type meter struct {
	nodes, ranges int
}

// right: may a node, so deep, be shown, and all that is below it? It ends at the first that is too many: a tree whose parts share their Kids can have more of them than one could go through.
func (m *meter) right(n api.Node, deep int) bool {
	m.nodes++
	m.ranges += len(n.Ranges)
	if m.nodes > mostNodes || m.ranges > mostRanges || deep > mostDeep || !fits(n) {
		return false
	}
	for _, kid := range n.Kids {
		if !m.right(kid, deep+1) {
			return false
		}
	}
	return true
}

// fits: has a node what its kind asks for, and nothing but that?
func fits(n api.Node) bool {
	kids := len(n.Kids)
	switch n.Kind {
	case api.NodeEmpty, api.NodeStart, api.NodeStop:
		return once(n) && len(n.Ranges) == 0 && kids == 0
	case api.NodeSet:
		return once(n) && slices.Equal(n.Ranges, tree.Set(n.Ranges)) && kids == 0
	case api.NodeJoin, api.NodeOr:
		return once(n) && len(n.Ranges) == 0 && kids >= 2
	case api.NodeRepeat:
		return counted(n) && len(n.Ranges) == 0 && kids == 1
	}
	return false
}

// once: does it say nothing of how often?
func once(n api.Node) bool {
	return times(n) == [2]int{}
}

// counted: does it say how often it may be?
func counted(n api.Node) bool {
	return 0 <= n.Low && n.Low <= api.MaxCount && (n.High == -1 || n.Low <= n.High && n.High <= api.MaxCount)
}

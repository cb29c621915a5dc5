package tree

import (
	"downspout/api"
	"downspout/node"
	"downspout/pool"
)

// branch is a node of a tree, with all that is below it.
type branch struct {
	pool   api.Pool
	id     int
	span   api.Span
	levels int // of nodes that it may have
}

// whole returns a tree as a branch.
func whole(t api.Tree, levels int) branch { return branch{pool: t.Pool, id: t.Root, levels: levels} }

// kids returns the branches of the kids of the node.
func (b branch) kids(n api.Node) []branch {
	var l []branch
	for i, s := range node.Spans(n, b.span) {
		l = append(l, branch{pool: b.pool, id: n.Kids[i], span: s, levels: b.levels - 1})
	}
	return l
}

// sum returns the bounds of the use of the node, and whether it and all below it are valid, and all leaves are at the last level.
func (b branch) sum() (api.Sum, bool) {
	n, err := pool.Get(b.pool, b.id)
	if err != api.OK || !node.Valid(n, b.span) || isLeaf(n) != (b.levels == 1) {
		return api.Sum{}, false
	}
	for i, kid := range b.kids(n) {
		if s, ok := kid.sum(); !ok || s != n.Sums[i] {
			return api.Sum{}, false
		}
	}
	return node.Sum(n), true
}

// read returns a node. One whose kids are not separated by pivots, which no tree has, is refused as if it were lost.
func read(p api.Pool, id int) (api.Node, api.Errno) {
	n, err := pool.Get(p, id)
	if err == api.OK && !isLeaf(n) && !separated(n) {
		return api.Node{}, api.ErrLost
	}
	return n, err
}

func isLeaf(n api.Node) bool { return len(n.Kids) == 0 }

// separated reports whether there is one pivot less than kids, and all of them are strictly increasing, so that no key has two kids.
func separated(n api.Node) bool {
	last := ""
	for _, p := range n.Pivots {
		if p <= last {
			return false
		}
		last = p
	}
	return len(n.Pivots) == len(n.Kids)-1
}

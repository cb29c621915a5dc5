package pool

import (
	"slices"

	"downspout/api"
)

// Sound reports whether all counts are right for roots.
func Sound(p api.Pool, roots []int) bool {
	held := allHeld(p, roots)
	if slices.ContainsFunc(p.Slots, spoiled) || !allUsed(p, held) || !counted(p, held) {
		return false
	}
	// As the counts are right, a node becomes free just after all that hold it. What is left is not reached, or there is a circle above it.
	return Live(dropped(p, roots)) == 0
}

// spoiled reports whether a slot is not used, but not the zero value either.
func spoiled(s api.Slot) bool {
	n := s.Node
	elements := len(n.Pairs) + len(n.Pivots) + len(n.Kids) + len(n.Sums) + len(n.Buf)
	return !s.Used && (s.Lost || s.Refs != 0 || elements > 0)
}

// allHeld returns the roots and the kids of all nodes: each id as often as it is held.
func allHeld(p api.Pool, roots []int) []int {
	held := slices.Clone(roots)
	for _, s := range p.Slots {
		held = append(held, s.Node.Kids...)
	}
	return held
}

// counted reports whether each slot counts how often it is held. All ids that are held must be used.
func counted(p api.Pool, held []int) bool {
	refs := make([]int, len(p.Slots))
	for _, id := range held {
		refs[id]++
	}
	return slices.EqualFunc(p.Slots, refs, func(s api.Slot, n int) bool { return s.Refs == n })
}

package pool_test

import (
	"slices"
	"testing"

	"downspout/api"
	"downspout/pool"
)

func above(kids ...int) api.Node { return api.Node{Kids: kids} }

// full returns a node with all that a node may have, and kids.
func full(text string, kids ...int) api.Node {
	return api.Node{
		Pairs:  []api.Pair{{Key: text, Value: "v", Stamp: 1}},
		Pivots: []string{text},
		Kids:   kids,
		Sums:   []api.Sum{{Inodes: api.Range{Lo: 1, Hi: 2}}},
		Buf:    []api.Msg{{Kind: api.Del, Key: text}},
	}
}

func taken(refs int, n api.Node) api.Slot { return api.Slot{Used: true, Refs: refs, Node: n} }

// with returns a pool with these slots.
func with(l ...api.Slot) api.Pool { return api.Pool{Slots: l} }

// changed returns a pool in which one slot is another one.
func changed(p api.Pool, id int, change func(s *api.Slot)) api.Pool {
	l := slices.Clone(p.Slots)
	change(&l[id])
	return with(l...)
}

func sameNode(a, b api.Node) bool {
	return slices.Equal(a.Pairs, b.Pairs) && slices.Equal(a.Pivots, b.Pivots) && slices.Equal(a.Kids, b.Kids) && slices.Equal(a.Sums, b.Sums) && slices.Equal(a.Buf, b.Buf)
}

func sameSlot(a, b api.Slot) bool {
	return a.Used == b.Used && a.Lost == b.Lost && a.Refs == b.Refs && sameNode(a.Node, b.Node)
}

func same(p, q api.Pool) bool { return slices.EqualFunc(p.Slots, q.Slots, sameSlot) }

// copyOf returns a pool that shares no memory with p.
func copyOf(p api.Pool) api.Pool {
	l := slices.Clone(p.Slots)
	for i := range l {
		n := &l[i].Node
		n.Pairs, n.Pivots, n.Kids, n.Sums, n.Buf = slices.Clone(n.Pairs), slices.Clone(n.Pivots), slices.Clone(n.Kids), slices.Clone(n.Sums), slices.Clone(n.Buf)
	}
	return with(l...)
}

// The model follows the words of the chapter, without regard to speed.

func modelUsed(p api.Pool, id int) bool { return id >= 0 && id < len(p.Slots) && p.Slots[id].Used }

// modelHeld returns how often an id is held: how often it is among the roots, and among the kids of used slots.
func modelHeld(p api.Pool, roots []int, id int) int {
	n := 0
	for _, root := range roots {
		if root == id {
			n++
		}
	}
	for _, s := range p.Slots {
		for _, kid := range s.Node.Kids {
			if s.Used && kid == id {
				n++
			}
		}
	}
	return n
}

// modelReach takes in what is reached until there is no more.
func modelReach(p api.Pool, roots []int) []int {
	var l []int
	take := func(ids []int) {
		for _, id := range ids {
			if modelUsed(p, id) && !slices.Contains(l, id) {
				l = append(l, id)
			}
		}
	}
	take(roots)
	for done := 0; done < len(l); done++ {
		take(p.Slots[l[done]].Node.Kids)
	}
	slices.Sort(l)
	return l
}

func modelSound(p api.Pool, roots []int) bool {
	ok := true
	for _, root := range roots {
		ok = ok && modelUsed(p, root)
	}
	reached := modelReach(p, roots)
	for id, s := range p.Slots {
		if !s.Used {
			ok = ok && sameSlot(s, api.Slot{})
			continue
		}
		for _, kid := range s.Node.Kids {
			ok = ok && modelUsed(p, kid)
		}
		ok = ok && slices.Contains(reached, id) && s.Refs == modelHeld(p, roots, id) && !slices.Contains(modelReach(p, s.Node.Kids), id)
	}
	return ok
}

func modelAdd(p api.Pool, n api.Node) (api.Pool, int, api.Errno) {
	for _, kid := range n.Kids {
		if !modelUsed(p, kid) {
			return p, 0, api.ErrSlot
		}
	}
	q, id := copyOf(p), 0
	for modelUsed(q, id) {
		id++
	}
	if id == 4096 {
		return p, 0, api.ErrFull
	}
	if id == len(q.Slots) {
		q.Slots = append(q.Slots, api.Slot{})
	}
	q.Slots[id] = taken(1, n)
	for _, kid := range n.Kids {
		q.Slots[kid].Refs++
	}
	return q, id, api.OK
}

func modelHold(p api.Pool, id int) (api.Pool, api.Errno) {
	if !modelUsed(p, id) {
		return p, api.ErrSlot
	}
	return changed(p, id, func(s *api.Slot) { s.Refs++ }), api.OK
}

// modelDrop drops the kids of a node that nothing holds one after the other, each with a new pool.
func modelDrop(p api.Pool, id int) (api.Pool, api.Errno) {
	if !modelUsed(p, id) {
		return p, api.ErrSlot
	}
	old := p.Slots[id]
	if old.Refs != 1 {
		return changed(p, id, func(s *api.Slot) { s.Refs-- }), api.OK
	}
	p = changed(p, id, func(s *api.Slot) { *s = api.Slot{} })
	for _, kid := range old.Node.Kids {
		p, _ = modelDrop(p, kid)
	}
	return p, api.OK
}

func modelGet(p api.Pool, id int) (api.Node, api.Errno) {
	switch {
	case !modelUsed(p, id):
		return api.Node{}, api.ErrSlot
	case p.Slots[id].Lost:
		return api.Node{}, api.ErrLost
	}
	return p.Slots[id].Node, api.OK
}

func checkPool(t *testing.T, what string, got, want api.Pool) {
	t.Helper()
	if !same(got, want) {
		t.Fatalf("%s: %v, not %v", what, got, want)
	}
}

// checkCalls compares all functions with the model, for a pool for which they are specified.
func checkCalls(t *testing.T, p api.Pool, roots []int, n api.Node) {
	t.Helper()
	got, id, err := pool.Add(p, n)
	want, wantID, wantErr := modelAdd(p, n)
	checkPool(t, "Add", got, want)
	if id != wantID || err != wantErr {
		t.Fatalf("%v: Add of %v: %d %d, not %d %d", p, n, id, err, wantID, wantErr)
	}
	for id := -1; id <= len(p.Slots); id++ {
		checkID(t, p, id)
	}
	if pool.Sound(p, roots) != modelSound(p, roots) || !slices.Equal(pool.Reach(p, roots), modelReach(p, roots)) {
		t.Fatalf("%v, roots %v: %v %v", p, roots, pool.Sound(p, roots), pool.Reach(p, roots))
	}
	live := 0
	for _, s := range p.Slots {
		if s.Used {
			live++
		}
	}
	if pool.Live(p) != live {
		t.Fatalf("%v: %d are live", p, pool.Live(p))
	}
}

// checkID compares the functions for one id with the model.
func checkID(t *testing.T, p api.Pool, id int) {
	t.Helper()
	n, err := pool.Get(p, id)
	if want, wantErr := modelGet(p, id); !sameNode(n, want) || err != wantErr {
		t.Fatalf("%v: Get of %d: %v %d", p, id, n, err)
	}
	for i, call := range [][2]func(api.Pool, int) (api.Pool, api.Errno){{pool.Hold, modelHold}, {pool.Drop, modelDrop}} {
		got, err := call[0](p, id)
		want, wantErr := call[1](p, id)
		if !same(got, want) || err != wantErr {
			t.Fatalf("%v: Hold (0) or Drop (1), %d, of %d: %v %d, not %v %d", p, i, id, got, err, want, wantErr)
		}
	}
}

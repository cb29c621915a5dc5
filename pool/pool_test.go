package pool_test

import (
	"slices"
	"testing"

	"downspout/api"
	"downspout/pool"
)

// added returns a pool with one more node, which must get an id.
func added(t *testing.T, p api.Pool, n api.Node, want int) api.Pool {
	t.Helper()
	q, id, err := pool.Add(p, n)
	if id != want || err != api.OK {
		t.Fatalf("%v: Add of %v: %d %d", p, n, id, err)
	}
	return q
}

// dropped returns a pool with nodes held once less.
func dropped(t *testing.T, p api.Pool, ids ...int) api.Pool {
	t.Helper()
	for _, id := range ids {
		q, err := pool.Drop(p, id)
		if err != api.OK {
			t.Fatalf("%v: Drop of %d: %d", p, id, err)
		}
		p = q
	}
	return p
}

// P11.1, K1 to K4: the examples of the chapter.
func TestExamples(t *testing.T) {
	p := added(t, api.Pool{}, api.Node{}, 0)
	p = added(t, p, api.Node{}, 1)
	p = added(t, p, above(0, 1, 1), 2)
	checkPool(t, "three nodes", p, with(taken(2, api.Node{}), taken(3, api.Node{}), taken(1, above(0, 1, 1))))
	q := dropped(t, p, 0, 1)
	checkPool(t, "Drop of 0 and 1", q, with(taken(1, api.Node{}), taken(2, api.Node{}), taken(1, above(0, 1, 1))))
	q = dropped(t, q, 2)
	checkPool(t, "Drop of 2", q, with(api.Slot{}, api.Slot{}, api.Slot{}))
	if pool.Live(p) != 3 || pool.Live(q) != 0 {
		t.Errorf("%d and %d are live", pool.Live(p), pool.Live(q))
	}
	for _, old := range []api.Pool{p, q} {
		got, id, err := pool.Add(old, above(3))
		checkPool(t, "Add of a node with the kid 3", got, old)
		if id != 0 || err != api.ErrSlot {
			t.Errorf("Add of a node with the kid 3: %d %d", id, err)
		}
	}
	if n, err := pool.Get(api.Pool{}, 0); !sameNode(n, api.Node{}) || err != api.ErrSlot {
		t.Errorf("Get of 0 of an empty pool: %v %d", n, err)
	}
}

// P11.1, K1: nodes are kept whole, and kids are held once for each time that they are kids.
func TestNodesAreKept(t *testing.T) {
	p := added(t, api.Pool{}, full("a"), 0)
	p = added(t, p, full("b", 0, 0, 0), 1)
	p = added(t, p, full("c", 1, 0), 2)
	checkPool(t, "three nodes", p, with(taken(5, full("a")), taken(2, full("b", 0, 0, 0)), taken(1, full("c", 1, 0))))
	for id, want := range []api.Node{full("a"), full("b", 0, 0, 0), full("c", 1, 0)} {
		if n, err := pool.Get(p, id); !sameNode(n, want) || err != api.OK {
			t.Errorf("Get of %d: %v %d", id, n, err)
		}
	}
	checkPool(t, "all are dropped", dropped(t, p, 0, 1, 2), with(make([]api.Slot, 3)...))
}

// P11.5, K1: the least free slot is taken, wherever it is, and a new one only if there is none.
func TestLeastFree(t *testing.T) {
	for set := range 1 << 6 {
		p, want := api.Pool{}, 6
		for i := range 6 {
			p = added(t, p, full("old"), i)
		}
		for i := 5; i >= 0; i-- {
			if set>>i&1 == 1 {
				p, want = dropped(t, p, i), i
			}
		}
		q := added(t, p, full("new"), want)
		if len(q.Slots) != max(6, want+1) || len(p.Slots) != 6 {
			t.Fatalf("%d slots, then %d", len(p.Slots), len(q.Slots))
		}
		for id, s := range q.Slots {
			if id == want && !sameSlot(s, taken(1, full("new"))) || id != want && !sameSlot(s, p.Slots[id]) {
				t.Fatalf("%v: %v", p, q)
			}
		}
	}
}

// P11.1, P11.8, K1: a pool has 4096 slots, and a kid that is none is told first.
func TestFull(t *testing.T) {
	p := with(slices.Repeat([]api.Slot{taken(1, api.Node{})}, 4095)...)
	p = added(t, p, above(0, 4094), 4095)
	if len(p.Slots) != 4096 || p.Slots[0].Refs != 2 || p.Slots[4094].Refs != 2 {
		t.Errorf("%d slots", len(p.Slots))
	}
	for _, c := range []struct {
		n    api.Node
		want api.Errno
	}{{api.Node{}, api.ErrFull}, {above(0, 4095), api.ErrFull}, {above(0, 4096), api.ErrSlot}, {above(-1), api.ErrSlot}} {
		q, id, err := pool.Add(p, c.n)
		if !same(q, p) || id != 0 || err != c.want {
			t.Errorf("Add of %v: %d %d", c.n, id, err)
		}
	}
	for _, id := range []int{4093, 7, 1} {
		p = dropped(t, p, id)
		q := added(t, p, full("new", 4095), id)
		if _, _, err := pool.Add(p, above(id)); err != api.ErrSlot {
			t.Errorf("Add of a node with the kid %d, which is free: %d", id, err)
		}
		if pool.Live(q) != pool.Live(p)+1 || len(q.Slots) != 4096 {
			t.Errorf("%d are live, then %d", pool.Live(p), pool.Live(q))
		}
	}
}

// P11.1, K1: a pool that somebody made with more slots is full, too, unless one is free.
func TestMoreThanFull(t *testing.T) {
	p := with(slices.Repeat([]api.Slot{taken(1, api.Node{})}, 4100)...)
	if q, id, err := pool.Add(p, api.Node{}); !same(q, p) || id != 0 || err != api.ErrFull {
		t.Errorf("%d %d", id, err)
	}
	added(t, dropped(t, p, 4098), api.Node{}, 4098)
}

// P11.1, K2 to K4: lost nodes are not returned, but held and dropped like others. Whether they are lost matters only if they are used.
func TestLost(t *testing.T) {
	p := with(taken(3, full("a")), api.Slot{Used: true, Lost: true, Refs: 2}, api.Slot{Used: true, Lost: true, Refs: 1, Node: above(0, 1)}, api.Slot{Lost: true})
	for id, want := range []api.Errno{api.OK, api.ErrLost, api.ErrLost, api.ErrSlot, api.ErrSlot} {
		n, err := pool.Get(p, id)
		if err != want || id > 0 && !sameNode(n, api.Node{}) {
			t.Errorf("Get of %d: %v %d", id, n, err)
		}
	}
	q, err := pool.Hold(p, 1)
	checkPool(t, "Hold of 1", q, changed(p, 1, func(s *api.Slot) { s.Refs = 3 }))
	if err != api.OK {
		t.Error(err)
	}
	checkPool(t, "Add of a node above a lost one", added(t, p, above(1, 2), 3), with(p.Slots[0], api.Slot{Used: true, Lost: true, Refs: 3}, api.Slot{Used: true, Lost: true, Refs: 2, Node: above(0, 1)}, taken(1, above(1, 2))))
	p.Slots[3] = api.Slot{}
	checkPool(t, "Drop of 2 and 1", dropped(t, p, 2, 1), with(taken(2, full("a")), api.Slot{}, api.Slot{}, api.Slot{}))
}

// P11.1, P11.8: all functions on all pools of some nodes that may be kids of later ones, with all lists of up to two roots.
func TestSmallPools(t *testing.T) {
	pools, calls := []api.Pool{{}}, 0
	for size := range 5 {
		var larger []api.Pool
		for _, p := range pools {
			for _, kids := range lists(-1, size+1, 2) {
				checkCalls(t, p, kids, above(kids...))
				if q, _, err := pool.Add(p, full("x", kids...)); err == api.OK {
					larger = append(larger, q)
				}
				calls++
			}
		}
		pools = larger
	}
	if calls < 5000 {
		t.Errorf("only %d calls", calls)
	}
}

// lists returns all lists of at most so many numbers from lo up to hi.
func lists(lo, hi, size int) [][]int {
	all := [][]int{nil}
	for i := 0; i < len(all); i++ {
		if len(all[i]) < size {
			for n := lo; n < hi; n++ {
				all = append(all, append(slices.Clone(all[i]), n))
			}
		}
	}
	return all
}

// P11.1, K5: the least and the greatest ids, and ids that are roots and kids more than once.
func TestReachWrittenOut(t *testing.T) {
	p := with(taken(1, api.Node{}), api.Slot{}, taken(2, above(0)), taken(1, above(2, 2, 7, -3, 1)), api.Slot{Node: above(0)}, api.Slot{Used: true, Lost: true, Node: above(0)}, taken(0, above(6, 2)))
	for i, c := range []struct{ roots, want []int }{
		{nil, nil}, {[]int{0}, []int{0}}, {[]int{1}, nil}, {[]int{2}, []int{0, 2}}, {[]int{3}, []int{0, 2, 3}}, {[]int{4}, nil}, {[]int{5}, []int{0, 5}}, {[]int{6}, []int{0, 2, 6}},
		{[]int{5, 0, 5, 6}, []int{0, 2, 5, 6}}, {[]int{7, -1, 1 << 62, -1 << 63}, nil}, {[]int{7, 0, -1}, []int{0}},
	} {
		if got := pool.Reach(p, c.roots); !slices.Equal(got, c.want) {
			t.Errorf("case %d: %v", i, got)
		}
	}
}

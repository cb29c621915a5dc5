package pool_test

import (
	"math/rand"
	"slices"
	"strconv"
	"testing"

	"downspout/api"
	"downspout/pool"
)

// holder is a caller, with the ids that it holds.
type holder struct {
	p     api.Pool
	roots []int
}

// add adds a node whose kids are used, or not if wild.
func (h *holder) add(t *testing.T, r *rand.Rand, name string, wild bool) {
	t.Helper()
	n := full(name)
	for _, id := range r.Perm(len(h.p.Slots))[:r.Intn(min(len(h.p.Slots), 4)+1)] {
		if h.p.Slots[id].Used || wild {
			n.Kids = append(n.Kids, slices.Repeat([]int{id}, 1+r.Intn(2))...)
		}
	}
	q, id, err := pool.Add(h.p, n)
	want, wantID, wantErr := modelAdd(h.p, n)
	checkPool(t, "Add", q, want)
	if id != wantID || err != wantErr {
		t.Fatalf("Add of %v: %d %d, not %d %d", n, id, err, wantID, wantErr)
	}
	if err == api.OK {
		h.roots = append(h.roots, id)
	}
	h.p = q
}

// hold holds what is reached once more.
func (h *holder) hold(t *testing.T, r *rand.Rand) {
	t.Helper()
	reached := pool.Reach(h.p, h.roots)
	if len(reached) == 0 {
		return
	}
	id := reached[r.Intn(len(reached))]
	q, err := pool.Hold(h.p, id)
	want, _ := modelHold(h.p, id)
	checkPool(t, "Hold", q, want)
	back, _ := pool.Drop(q, id)
	checkPool(t, "Drop after Hold", back, h.p)
	if err != api.OK {
		t.Fatalf("Hold of %d: %d", id, err)
	}
	h.p, h.roots = q, append(h.roots, id)
}

// drop drops one of the roots, and checks that what the others reach remains.
func (h *holder) drop(t *testing.T, r *rand.Rand) {
	t.Helper()
	if len(h.roots) == 0 {
		return
	}
	i := r.Intn(len(h.roots))
	id := h.roots[i]
	q, err := pool.Drop(h.p, id)
	want, _ := modelDrop(h.p, id)
	checkPool(t, "Drop", q, want)
	if err != api.OK {
		t.Fatalf("Drop of %d: %d", id, err)
	}
	old := h.p
	h.p, h.roots = q, slices.Delete(slices.Clone(h.roots), i, i+1)
	reached := pool.Reach(old, h.roots)
	if !slices.Equal(pool.Reach(q, h.roots), reached) {
		t.Fatalf("after Drop of %d, %v reach %v, not %v", id, h.roots, pool.Reach(q, h.roots), reached)
	}
	for _, id := range reached {
		n, err := pool.Get(q, id)
		if was, wasErr := pool.Get(old, id); !sameNode(n, was) || err != wasErr {
			t.Fatalf("the node %d is %v, and was %v", id, n, was)
		}
	}
}

// refuse checks that ids that are not used are refused.
func (h *holder) refuse(t *testing.T) {
	t.Helper()
	for id := -1; id <= len(h.p.Slots); id++ {
		if modelUsed(h.p, id) {
			continue
		}
		n, e := pool.Get(h.p, id)
		q, f := pool.Hold(h.p, id)
		s, g := pool.Drop(h.p, id)
		if e != api.ErrSlot || f != api.ErrSlot || g != api.ErrSlot || !sameNode(n, api.Node{}) || !same(q, h.p) || !same(s, h.p) {
			t.Fatalf("%d is not refused: %d %d %d", id, e, f, g)
		}
	}
}

// end drops all roots, in any order, after which nothing is left.
func (h *holder) end(t *testing.T, r *rand.Rand) {
	t.Helper()
	for len(h.roots) > 0 {
		h.drop(t, r)
	}
	checkPool(t, "the end", h.p, with(make([]api.Slot, len(h.p.Slots))...))
	if pool.Live(h.p) != 0 || !pool.Sound(h.p, nil) {
		t.Fatalf("%d are left", pool.Live(h.p))
	}
}

// P11.2 to P11.6, P11.8: callers that add, hold and drop nodes in any order; the pools that they had before stay as they were.
func TestScripts(t *testing.T) {
	r := rand.New(rand.NewSource(112))
	most := 0
	for range 300 {
		var h holder
		var old, copies []api.Pool
		for step := range 60 {
			old, copies = append(old, h.p), append(copies, copyOf(h.p))
			switch r.Intn(6) {
			case 0, 1, 2:
				h.add(t, r, strconv.Itoa(step), r.Intn(4) == 0)
			case 3:
				h.hold(t, r)
			default:
				h.drop(t, r)
			}
			h.refuse(t)
			if !modelSound(h.p, h.roots) || !pool.Sound(h.p, h.roots) || pool.Live(h.p) != len(pool.Reach(h.p, h.roots)) {
				t.Fatalf("%v is not sound for %v", h.p, h.roots)
			}
			most = max(most, pool.Live(h.p))
		}
		h.end(t, r)
		for i := range old {
			checkPool(t, "a pool that was", old[i], copies[i])
		}
	}
	if most < 12 {
		t.Errorf("at most %d nodes", most)
	}
}

// P11.1, P11.3: nodes that were lost with their kids hold these on.
func TestScriptsWithLostNodes(t *testing.T) {
	r := rand.New(rand.NewSource(113))
	kept := 0
	for range 300 {
		var h holder
		for step := range 50 {
			switch used := pool.Reach(h.p, h.roots); r.Intn(6) {
			case 0, 1, 2:
				h.add(t, r, strconv.Itoa(step), false)
			case 3:
				h.hold(t, r)
			case 4:
				h.drop(t, r)
			default:
				if len(used) > 0 && r.Intn(2) == 0 {
					h.p = changed(h.p, used[r.Intn(len(used))], func(s *api.Slot) { *s = api.Slot{Used: true, Lost: true, Refs: s.Refs} })
				}
			}
		}
		for len(h.roots) > 0 {
			h.drop(t, r)
		}
		kept += pool.Live(h.p)
	}
	if kept < 100 {
		t.Errorf("%d nodes are kept", kept)
	}
}

// randomPool returns a pool of any values.
func randomPool(r *rand.Rand, size int) api.Pool {
	var p api.Pool
	for range size {
		s := api.Slot{Used: r.Intn(5) > 0, Lost: r.Intn(5) == 0, Refs: r.Intn(4) - 1}
		for range r.Intn(3) {
			s.Node.Kids = append(s.Node.Kids, r.Intn(size+2)-1)
		}
		p.Slots = append(p.Slots, s)
	}
	return p
}

// P11.7, K5: what is reached from several roots, in pools of any values.
func TestReachOfSeveral(t *testing.T) {
	r := rand.New(rand.NewSource(117))
	for range 5000 {
		size := 1 + r.Intn(12)
		p := randomPool(r, size)
		var roots, want []int
		for range r.Intn(5) {
			roots = append(roots, r.Intn(size+2)-1)
			want = append(want, pool.Reach(p, roots[len(roots)-1:])...)
		}
		slices.Sort(want)
		want = slices.Compact(want)
		checkSound(t, p, roots)
		checkSound(t, counted(p, roots), roots)
		if got := pool.Reach(p, roots); !slices.Equal(got, want) {
			t.Fatalf("Reach(%v, %v): %v, not %v", p, roots, got, want)
		}
	}
}

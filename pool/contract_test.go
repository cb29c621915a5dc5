package pool_test

import (
	"math/rand"
	"slices"
	"testing"

	"downspout/api"
	"downspout/pool"
)

// P1: pools that are sound for no roots are accepted by all functions.
func TestOddPools(t *testing.T) {
	r := rand.New(rand.NewSource(111))
	odd := []int{-1 << 63, -2, -1, 0, 1, 2, 3, 4, 5, 4096, 1<<63 - 1}
	refs := []int{-1 << 63, -1, 0, 1, 2, 1<<63 - 1}
	for range 3000 {
		p := randomPool(r, r.Intn(6)+1)
		for range r.Intn(3) {
			s := &p.Slots[r.Intn(len(p.Slots))]
			s.Refs, s.Node.Kids = refs[r.Intn(len(refs))], append(s.Node.Kids, odd[r.Intn(len(odd))])
		}
		for _, id := range odd {
			checkGet(t, p, id)
			pool.Hold(p, id)
			pool.Drop(p, id)
			pool.Add(p, above(id, odd[r.Intn(len(odd))]))
			checkSound(t, p, []int{id, odd[r.Intn(len(odd))]})
		}
	}
}

// checkGet compares Get and Live, which accept all values, with what they must return.
func checkGet(t *testing.T, p api.Pool, id int) {
	t.Helper()
	n, err := pool.Get(p, id)
	want, wantErr := modelGet(p, id)
	if !sameNode(n, want) || err != wantErr {
		t.Fatalf("%v: Get of %d: %v %d", p, id, n, err)
	}
	if pool.Live(p) != len(modelReach(p, []int{0, 1, 2, 3, 4, 5, 6})) {
		t.Fatalf("%v: %d are live", p, pool.Live(p))
	}
}

// P1, P11.4: pools in which nodes hang below each other, each one twice, so that there are more ways to the last one than anybody could go.
func TestLadders(t *testing.T) {
	for _, size := range []int{1, 2, 100, api.MaxNodes, 100000} {
		p := with(make([]api.Slot, size)...)
		for i := range size {
			p.Slots[i] = taken(2, above(i+1, i+1))
		}
		p.Slots[0].Refs, p.Slots[size-1].Node = 1, full("last")
		if !pool.Sound(p, []int{0}) || pool.Sound(p, []int{0, 0}) || pool.Live(p) != size {
			t.Errorf("%d nodes: not sound", size)
		}
		for _, root := range []int{0, size / 2, size - 1} {
			if got := pool.Reach(p, []int{root, root}); len(got) != size-root || got[0] != root {
				t.Errorf("%d nodes: %d are reached from %d", size, len(got), root)
			}
		}
		q, err := pool.Drop(p, 0)
		if err != api.OK || pool.Live(q) != 0 || !pool.Sound(q, nil) || pool.Live(p) != size {
			t.Errorf("%d nodes: %d, %d are left", size, err, pool.Live(q))
		}
	}
}

// P1: a circle that is let go of stays, and so does what it holds.
func TestDropOfCircles(t *testing.T) {
	p := with(taken(2, above(1)), taken(1, above(0, 2)), taken(1, api.Node{}))
	q, err := pool.Drop(p, 0)
	checkPool(t, "Drop", q, with(taken(1, above(1)), taken(1, above(0, 2)), taken(1, api.Node{})))
	if err != api.OK {
		t.Error(err)
	}
}

// P1, P11.4: a node with many kids, and a leaf with many holders.
func TestWideNodes(t *testing.T) {
	const many = 100000
	var kids []int
	p := with(taken(1, api.Node{}))
	for range many {
		kids = append(kids, 0)
	}
	p = added(t, p, above(kids...), 1)
	if p.Slots[0].Refs != many+1 || !pool.Sound(p, []int{1, 0}) {
		t.Errorf("%d times", p.Slots[0].Refs)
	}
	if !slices.Equal(pool.Reach(p, kids), []int{0}) || !slices.Equal(pool.Reach(p, []int{1}), []int{0, 1}) {
		t.Error("it is reached more than once")
	}
	if q := dropped(t, p, 0, 1); pool.Live(q) != 0 {
		t.Errorf("%d are left", pool.Live(q))
	}
	holders := with(append([]api.Slot{taken(many, api.Node{})}, slices.Repeat([]api.Slot{taken(1, above(0))}, many)...)...)
	var roots []int
	for i := range many {
		roots = append(roots, many-i)
	}
	if !pool.Sound(holders, roots) || pool.Sound(holders, roots[1:]) || len(pool.Reach(holders, roots)) != many+1 {
		t.Error("holders of one leaf are not sound")
	}
}

// roomy returns a list that has other elements behind it, and all of them.
func roomy[E any](l []E, behind E) ([]E, []E) {
	room := append(slices.Clone(l), slices.Repeat([]E{behind}, 20)...)
	return room[:len(l)], room
}

// P2 and K8: results are the same again, and no function modifies an argument, or what lies behind it.
func TestArgumentsStay(t *testing.T) {
	r := rand.New(rand.NewSource(118))
	for range 2000 {
		p := randomPool(r, 6)
		slots, slotRoom := roomy(p.Slots, taken(7, full("room")))
		roots, rootRoom := roomy([]int{5, 0, 3}, 4)
		kids, kidRoom := roomy([]int{r.Intn(6), r.Intn(6)}, 4)
		below, belowRoom := roomy([]int{1, 2}, 5)
		slots[0].Node = full("a", below...)
		slots[3], slots[5] = taken(1, above(below...)), taken(1, above(0))
		want := copyOf(with(slotRoom...))
		p = with(slots...)
		calls := func() (all []api.Pool) {
			for id := range slots {
				held, _ := pool.Hold(p, id)
				less, _ := pool.Drop(p, id)
				all = append(all, held, less)
			}
			more, _, _ := pool.Add(p, full("n", kids...))
			one, _, _ := pool.Add(p, above())
			return append(all, more, one)
		}
		first := calls()
		sound, reached := pool.Sound(p, roots), pool.Reach(p, roots)
		for i, q := range calls() {
			checkPool(t, "again", q, first[i])
		}
		if pool.Sound(p, roots) != sound || !slices.Equal(pool.Reach(p, roots), reached) {
			t.Fatalf("%v: other results", p)
		}
		checkPool(t, "the pool", with(slotRoom...), want)
		for _, room := range [][]int{rootRoom[3:], kidRoom[2:]} {
			if slices.ContainsFunc(room, func(n int) bool { return n != 4 }) {
				t.Fatalf("%v are changed", room)
			}
		}
		if !slices.Equal(rootRoom[:3], []int{5, 0, 3}) || !slices.Equal(belowRoom, append([]int{1, 2}, slices.Repeat([]int{5}, 20)...)) {
			t.Fatal("roots or kids are changed")
		}
	}
}

// P2 and K8: a pool stays as it is when another one that was made of it grows.
func TestVersions(t *testing.T) {
	p := added(t, api.Pool{}, full("a"), 0)
	a, b := added(t, p, full("left", 0), 1), added(t, p, full("right", 0, 0), 1)
	checkPool(t, "the first", a, with(taken(2, full("a")), taken(1, full("left", 0))))
	checkPool(t, "the second", b, with(taken(3, full("a")), taken(1, full("right", 0, 0))))
	checkPool(t, "the old one", p, with(taken(1, full("a"))))
}

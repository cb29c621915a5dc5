package pool_test

import (
	"slices"
	"testing"

	"downspout/api"
	"downspout/pool"
)

// counted returns a pool in which Refs of each used slot is as roots require.
func counted(p api.Pool, roots []int) api.Pool {
	q := with(slices.Clone(p.Slots)...)
	for id, s := range q.Slots {
		if s.Used {
			q.Slots[id].Refs = modelHeld(p, roots, id)
		}
	}
	return q
}

// checkSound compares Sound and Reach with the model.
func checkSound(t *testing.T, p api.Pool, roots []int) bool {
	t.Helper()
	want := modelSound(p, roots)
	if pool.Sound(p, roots) != want {
		t.Fatalf("Sound(%v, %v) is not %v", p, roots, want)
	}
	if got := pool.Reach(p, roots); !slices.Equal(got, modelReach(p, roots)) {
		t.Fatalf("Reach(%v, %v): %v", p, roots, got)
	}
	return want
}

// P11.1, K5, K6: all pools of three slots with up to two kids, circles and kids that are none among them, for all lists of up to two roots, with right counts and with wrong ones.
func TestSmallGraphs(t *testing.T) {
	var slots []api.Slot
	for _, kids := range lists(0, 4, 2) {
		slots = append(slots, taken(0, above(kids...)))
	}
	slots = append(slots, api.Slot{})
	sound, all := 0, 0
	for _, a := range slots {
		for _, b := range slots {
			for _, c := range slots {
				for i, roots := range lists(0, 4, 2) {
					p := counted(with(a, b, c), roots)
					if checkSound(t, p, roots) {
						sound++
					}
					all++
					checkSound(t, changed(p, all%3, func(s *api.Slot) { s.Refs += 1 - i%2*2 }), roots)
				}
			}
		}
	}
	if sound < 400 || all-sound < 400 {
		t.Errorf("%d of %d are sound", sound, all)
	}
}

// P11.1, K6: each condition alone is broken.
func TestSoundWrittenOut(t *testing.T) {
	ok := with(taken(3, full("a")), api.Slot{}, taken(2, full("b", 0, 0)), taken(1, full("c", 2)), taken(1, full("d", 0)), api.Slot{})
	roots := []int{3, 2, 4}
	for id, s := range ok.Slots {
		if !pool.Sound(ok, roots) || !pool.Sound(ok, []int{4, 3, 2}) {
			t.Fatal("it is not sound")
		}
		for what, change := range map[string]func(s *api.Slot){
			"Refs is more":      func(s *api.Slot) { s.Refs++ },
			"Refs is less":      func(s *api.Slot) { s.Refs-- },
			"Used is other":     func(s *api.Slot) { s.Used = !s.Used },
			"one kid more":      func(s *api.Slot) { s.Node.Kids = append(slices.Clone(s.Node.Kids), 0) },
			"a kid that is not": func(s *api.Slot) { s.Node.Kids = []int{1} },
		} {
			if pool.Sound(changed(ok, id, change), roots) {
				t.Errorf("slot %d: %s: it is sound", id, what)
			}
		}
		lost := changed(ok, id, func(s *api.Slot) { s.Lost = true })
		bare := changed(lost, id, func(s *api.Slot) { s.Node = above(s.Node.Kids...) })
		if got := pool.Sound(lost, roots); got != s.Used || pool.Sound(bare, roots) != s.Used {
			t.Errorf("slot %d is lost: %v", id, got)
		}
	}
	for _, l := range [][]int{nil, {3, 2}, {3, 4}, {3, 2, 4, 4}, {3, 2, 4, 0}, {3, 3, 4}, {3, 2, 4, 1}, {3, 2, 4, -1}, {3, 2, 4, 6}, {3, 2, 1}} {
		if pool.Sound(ok, l) {
			t.Errorf("it is sound for %v", l)
		}
	}
}

// P11.1, K6: what is not used is the zero value in every field.
func TestUnusedSlots(t *testing.T) {
	n := full("a", 0)
	for i, c := range []struct {
		s    api.Slot
		want bool
	}{
		{api.Slot{}, true}, {api.Slot{Node: api.Node{Pairs: []api.Pair{}, Pivots: []string{}, Kids: []int{}, Sums: []api.Sum{}, Buf: []api.Msg{}}}, true},
		{api.Slot{Refs: 1}, false}, {api.Slot{Refs: -1}, false}, {api.Slot{Lost: true}, false}, {taken(0, api.Node{}), false},
		{api.Slot{Node: api.Node{Pairs: n.Pairs}}, false}, {api.Slot{Node: api.Node{Pivots: n.Pivots}}, false}, {api.Slot{Node: api.Node{Kids: n.Kids}}, false},
		{api.Slot{Node: api.Node{Sums: n.Sums}}, false}, {api.Slot{Node: api.Node{Buf: n.Buf}}, false}, {api.Slot{Node: n}, false},
	} {
		for place, p := range []api.Pool{with(taken(1, api.Node{}), c.s), with(taken(2, api.Node{}), taken(1, above(0)), c.s)} {
			if got := pool.Sound(p, []int{0, 1}[:place+1]); got != c.want {
				t.Errorf("case %d, place %d: %v", i, place, got)
			}
		}
		if got := pool.Sound(with(c.s), nil); got != c.want {
			t.Errorf("case %d alone: %v", i, got)
		}
	}
	if !pool.Sound(api.Pool{}, nil) || pool.Sound(api.Pool{}, []int{0}) || pool.Sound(api.Pool{}, []int{-1}) {
		t.Error("the empty pool")
	}
}

// P11.1, K6: circles of all lengths, alone, below a root and above a leaf, are not sound, though all counts are right and all is reached.
func TestCircles(t *testing.T) {
	for size := 1; size < 20; size++ {
		for cut := range 2 {
			p := with(taken(0, api.Node{}))
			for i := range size {
				p.Slots = append(p.Slots, taken(0, above(0, 1+(i+1)%size)))
			}
			if cut == 1 {
				p.Slots[size].Node = above(0)
			}
			p.Slots = append(p.Slots, taken(0, above(1)))
			for _, roots := range [][]int{{size + 1}, {size + 1, 1}, {size + 1, 0, 0, size}} {
				if got := checkSound(t, counted(p, roots), roots); got != (cut == 1) {
					t.Errorf("%d nodes, cut %d: %v", size, cut, got)
				}
			}
		}
	}
}

package tree_test

import (
	"math/rand"
	"slices"
	"testing"

	"downspout/api"
	"downspout/node"
	"downspout/tree"
)

// checkValid compares Valid with the model.
func checkValid(t *testing.T, x api.Tree) bool {
	t.Helper()
	want := modelValid(x)
	if tree.Valid(x) != want {
		t.Fatalf("%v: Valid is not %v", x, want)
	}
	return want
}

// P12.1, L1: each condition alone is broken.
func TestValidWrittenOut(t *testing.T) {
	low := above(list(put("a/k", "v", 1)), leaf(pair("a/x", "1", 1)), "a/y", leaf(pair("a/y", "1", 1)))
	other := above(nil, leaf(pair("b/x", "1", 1)))
	x := lay(t, above(list(drop("a", "b")), low, "b", other))
	// The ids: 0 and 1 are the leaves of 2, 3 is that of 4, and 5 is the root.
	if !tree.Valid(x) || x.Root != 5 {
		t.Fatalf("%v is not valid", x)
	}
	for what, c := range map[string]struct {
		id     int
		change func(n *api.Node)
	}{
		"a key beyond the span":        {0, func(n *api.Node) { n.Pairs = []api.Pair{pair("b/x", "1", 1)} }},
		"a key at the end of the span": {0, func(n *api.Node) { n.Pairs = []api.Pair{pair("a/y", "1", 1)} }},
		"a key before the span":        {1, func(n *api.Node) { n.Pairs = []api.Pair{pair("a/x", "1", 1)} }},
		"no table":                     {3, func(n *api.Node) { n.Pairs = slices.Repeat(n.Pairs, 2) }},
		"a message outside":            {2, func(n *api.Node) { n.Buf = list(put("b", "v", 1)) }},
		"a message that is not valid":  {5, func(n *api.Node) { n.Buf = list(api.Msg{}) }},
		"a pivot outside":              {2, func(n *api.Node) { n.Pivots = []string{"b"} }},
		"a pivot too many":             {4, func(n *api.Node) { n.Pivots = []string{"c"} }},
		"a pivot too few":              {5, func(n *api.Node) { n.Pivots = nil }},
		"pairs beside kids":            {5, func(n *api.Node) { n.Pairs = []api.Pair{pair("k", "v", 1)} }},
		"kids in the wrong order":      {2, func(n *api.Node) { n.Kids = []int{1, 0} }},
		"a kid that is a leaf":         {5, func(n *api.Node) { n.Kids = []int{2, 3} }},
		"a first kid that is a leaf":   {5, func(n *api.Node) { n.Kids = []int{0, 4} }},
		"a kid too low":                {2, func(n *api.Node) { n.Kids = []int{0, 4} }},
		"no such kid":                  {5, func(n *api.Node) { n.Kids = []int{2, 6} }},
		"itself as a kid":              {4, func(n *api.Node) { n.Kids = []int{4} }},
		"the root as a kid":            {4, func(n *api.Node) { n.Kids = []int{5} }},
		"no sums":                      {5, func(n *api.Node) { n.Sums = nil }},
		"fewer inodes at most":         {5, func(n *api.Node) { n.Sums[1].Inodes.Hi++ }},
		"more bytes at least":          {5, func(n *api.Node) { n.Sums[0].Bytes = api.Range{Lo: 1, Hi: 1} }},
		"another sum below":            {4, func(n *api.Node) { n.Sums[0].Bytes.Hi++ }},
		"sums in the wrong order":      {5, func(n *api.Node) { slices.Reverse(n.Sums) }},
	} {
		y := changed(x, c.id, func(s *api.Slot) {
			s.Node.Sums = slices.Clone(s.Node.Sums)
			c.change(&s.Node)
		})
		if checkValid(t, y) {
			t.Errorf("%s: valid", what)
		}
	}
	for id := range x.Pool.Slots {
		unused := changed(x, id, func(s *api.Slot) { s.Used = false })
		if checkValid(t, without(x, id)) || checkValid(t, unused) {
			t.Errorf("%d is lost, or not used: valid", id)
		}
	}
	for _, root := range []int{-1 << 63, -1, 6, 1<<63 - 1} {
		y := x
		y.Root = root
		if checkValid(t, y) {
			t.Errorf("the root %d: valid", root)
		}
	}
}

// P12.1, L1: what does not matter: counts, slots that are not reached, lost ones among them, and nodes that are greater than the shape says.
func TestStillValid(t *testing.T) {
	wide := above(list(put("a", "", 1), put("b", "", 1), put("c", "", 1)), leaf(pair("a", "", 1), pair("b", "", 1), pair("c", "", 1)), "d", leaf(), "e", leaf(), "f", leaf())
	x := lay(t, wide)
	for i := range x.Pool.Slots {
		if !checkValid(t, changed(x, i, func(s *api.Slot) { s.Refs = i - 1 })) {
			t.Errorf("another count of %d: not valid", i)
		}
	}
	for _, s := range []api.Slot{{}, {Lost: true}, {Used: true, Lost: true}, {Used: true, Node: api.Node{Kids: []int{9}, Pivots: []string{"k"}}}} {
		y := x
		y.Pool.Slots = append(slices.Clone(x.Pool.Slots), s)
		if !checkValid(t, y) {
			t.Errorf("with a slot %v: not valid", s)
		}
	}
}

// P12.1, L1: at most 64 levels, and all kids of the same height, wherever one is higher.
func TestLevels(t *testing.T) {
	for _, levels := range []int{1, 2, 63, 64, 65, 66, 128, 1000} {
		for _, end := range []*sketch{leaf(), leaf(pair("k", "v", 1))} {
			if got := checkValid(t, lay(t, chain(levels, end))); got != (levels <= 64) {
				t.Errorf("%d levels: %v", levels, got)
			}
		}
	}
	for a := 1; a < 5; a++ {
		for b := 1; b < 5; b++ {
			for c := 1; c < 5; c++ {
				x := lay(t, above(nil, chain(a, leaf()), "b", chain(b, leaf()), "c", chain(c, leaf())))
				y := lay(t, above(nil, above(nil, chain(a, leaf()), "b", chain(b, leaf())), "c", chain(c+1, leaf())))
				if checkValid(t, x) != (a == b && b == c) || checkValid(t, y) != (a == b && b == c) {
					t.Errorf("kids of the heights %d, %d, %d: %v", a, b, c, tree.Valid(x))
				}
			}
		}
	}
	for _, levels := range []int{63, 64} {
		x := lay(t, above(nil, chain(levels, leaf()), "b", chain(levels, leaf())))
		if checkValid(t, x) != (levels == 63) {
			t.Errorf("a root above %d levels: %v", levels, tree.Valid(x))
		}
	}
}

// P12.1, L1: one empty leaf, and chains above it, may have several places; with a pair, or a message for a key, a node has one.
func TestSharedNodes(t *testing.T) {
	for _, c := range []struct {
		end  *sketch
		want bool
	}{{leaf(), true}, {chain(3, leaf()), true}, {leaf(pair("a", "v", 1)), false}, {above(list(put("a", "", 1)), leaf()), false}, {above(nil, leaf(), "a", leaf()), false}} {
		x := lay(t, above(nil, c.end, "b", c.end, "c", c.end))
		if len(x.Pool.Slots[x.Root].Node.Kids) != 3 || checkValid(t, x) != c.want {
			t.Errorf("%v: %v", x, tree.Valid(x))
		}
	}
}

// change changes something of a tree, which may be valid then or not.
func change(r *rand.Rand, x api.Tree) api.Tree {
	other := x.Pool.Slots[r.Intn(len(x.Pool.Slots))].Node
	y := changed(x, r.Intn(len(x.Pool.Slots)), func(s *api.Slot) {
		n := &s.Node
		n.Kids, n.Sums = slices.Clone(n.Kids), slices.Clone(n.Sums)
		i := r.Intn(len(n.Kids) + 1)
		switch kind := r.Intn(9); {
		case kind == 0 && i < len(n.Kids):
			n.Kids[i] = r.Intn(len(x.Pool.Slots)+2) - 1
		case kind == 1 && i < len(n.Kids):
			n.Sums[i] = node.Sum(other)
		case kind == 2:
			n.Pivots = other.Pivots
		case kind == 3:
			n.Buf = other.Buf
		case kind == 4:
			n.Pairs = other.Pairs
		case kind == 5:
			*n = other
		case kind == 6:
			s.Refs++
		case kind == 7:
			s.Used = r.Intn(3) > 0
		case kind == 8:
			s.Lost = r.Intn(3) == 0
		}
	})
	if r.Intn(9) == 0 {
		y.Root = r.Intn(len(x.Pool.Slots)+2) - 1
	}
	return y
}

// P12.1, L1: random trees, and these with one or two changes, and functions that accept only valid ones still end.
func TestRandomChanges(t *testing.T) {
	r := rand.New(rand.NewSource(128))
	valid, changes := 0, 20000
	for range changes {
		x := randomTree(t, r, 4)
		for range 1 + r.Intn(2) {
			x = change(r, x)
		}
		if checkValid(t, x) {
			valid++
		}
		callAll(x)
	}
	if valid < changes/20 || valid > changes*19/20 {
		t.Errorf("%d of %d are valid", valid, changes)
	}
}

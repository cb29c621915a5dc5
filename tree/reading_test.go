package tree_test

import (
	"math/rand"
	"slices"
	"testing"

	"downspout/api"
	"downspout/span"
	"downspout/table"
	"downspout/tree"
)

// P12.1, L2: what is found is followed back through all buffers on its way, written out.
func TestGetWrittenOut(t *testing.T) {
	low := above(list(move("a/", "b/"), stamp("b/x", "b/y", 2), put("b/k", "put", 3)), leaf(pair("a/x", "1", 1), pair("a/y", "1", 1)), "a/z", leaf())
	mid := above(list(clone("b/", "c/"), stamp("c/", "c/y", 4)), low, "f", above(nil, leaf()))
	top := above(list(del("c/k"), move("c/", "g/"), stamp("g/y", "g/z", 5), drop("b/x", "b/y")), mid, "m", above(nil, above(nil, leaf())))
	x := lay(t, top)
	for _, c := range []struct {
		k     string
		want  api.Pair
		reads int
	}{
		{"a/x", api.Pair{}, 3}, {"b/k", pair("b/k", "put", 3), 3}, {"b/x", api.Pair{}, 1}, {"b/y", pair("b/y", "1", 1), 4}, {"c/x", api.Pair{}, 1},
		{"g/k", api.Pair{}, 1}, {"g/x", pair("g/x", "1", 4), 4}, {"g/y", pair("g/y", "1", 5), 4}, {"g/xx", api.Pair{}, 4}, {"n", api.Pair{}, 4}, {"", api.Pair{}, 4}, {"l", api.Pair{}, 4},
	} {
		p, ok, reads, err := tree.Get(x, c.k)
		if p != c.want || ok != (c.want != api.Pair{}) || reads != c.reads || err != api.OK {
			t.Errorf("Get of %q: %v %v %d %d", c.k, p, ok, reads, err)
		}
	}
	want := []api.Pair{pair("b/k", "put", 3), pair("b/y", "1", 1), pair("g/x", "1", 4), pair("g/y", "1", 5)}
	if l, err := tree.Scan(x, api.Span{}); !slices.Equal(l, want) || err != api.OK || !tree.Valid(x) {
		t.Errorf("Scan of all: %v %d", l, err)
	}
}

// P12.1, L2, L3: a key is read where it was before it was renamed several times, and a pair that two keys come from is read for both.
func TestRenames(t *testing.T) {
	renames := list(move("a/", "b/"), move("b/", "c/"), clone("c/", "a/"), move("c/", "d/"), move("a/x", "a/y"))
	x := lay(t, above(renames, leaf(pair("a/x", "1", 1), pair("b/x", "2", 2)), "c", leaf(pair("c/x", "3", 3), pair("d/x", "4", 4))))
	want := []api.Pair{pair("a/y", "1", 1), pair("d/x", "1", 1)}
	for _, k := range keys {
		checkGet(t, x, want, k)
		checkScan(t, x, want, span.One(k))
	}
	if l, err := tree.Scan(x, sp("a/y", "d/y")); !slices.Equal(l, want) || err != api.OK {
		t.Errorf("Scan: %v %d", l, err)
	}
	right := x.Pool.Slots[x.Root].Node.Kids[1]
	if l, err := tree.Scan(without(x, right), span.Prefix("d/")); !slices.Equal(l, want[1:]) || err != api.OK {
		t.Errorf("Scan of d/ without the leaf of d/: %v %d", l, err)
	}
}

// checkReads compares Get of all keys, and Scan of some spans, with the model.
func checkReads(t *testing.T, r *rand.Rand, x api.Tree, spans int, lost ...int) {
	t.Helper()
	all := contentOf(x)
	tries := slices.Concat(keys, []string{"", "\x00", "\xff", "e/x", ends[r.Intn(len(ends))] + "\x00"})
	for _, p := range all {
		tries = append(tries, p.Key)
	}
	for _, k := range tries {
		checkGet(t, x, all, k, lost...)
	}
	for range spans {
		checkScan(t, x, all, sp(tries[r.Intn(len(tries))], tries[r.Intn(len(tries))]), lost...)
		checkScan(t, x, all, sp(ends[r.Intn(len(ends))], ends[r.Intn(len(ends))]), lost...)
		checkScan(t, x, all, span.One(tries[r.Intn(len(tries))]), lost...)
	}
	checkScan(t, x, all, api.Span{}, lost...)
}

// P12.1, P12.2: all trees of a root with up to three leaves, and a buffer of up to two of some messages.
func TestSmallTrees(t *testing.T) {
	r := rand.New(rand.NewSource(121))
	few := list(put("a/x", "new", 100), del("b/x"), drop("a/xx", "b/x"), drop("", "b"), stamp("a/x", "c", 200), stamp("b/x", "", 201), move("a/", "b/"), move("b/", "c/"), move("a/x", "a/y"), move("c/", "a/x"), clone("a/", "e/"), clone("b/x", "a/"), clone("a/x", "c/"), move("b", "e/"))
	bufs := [][]api.Msg{nil}
	for _, m := range few {
		bufs = append(bufs, list(m))
		for _, n := range few {
			bufs = append(bufs, list(m, n))
		}
	}
	for _, pivots := range [][]string{nil, {"b"}, {"a/x"}, {"b/x"}, {"a/xx", "b0"}, {"a/y", "b/x"}} {
		for i, buf := range bufs {
			root := &sketch{pivots: pivots, buf: buf}
			for _, part := range span.Parts(api.Span{}, pivots) {
				root.kids = append(root.kids, leaf(where(asPairs(keys), part)...))
			}
			x := lay(t, root)
			checkReads(t, r, x, 8)
			checkReads(t, r, x, 3, i%len(root.kids))
			if !tree.Valid(x) || tree.Height(x) != 2 {
				t.Fatalf("%v: Valid %v, Height %d", x, tree.Valid(x), tree.Height(x))
			}
		}
	}
}

// P12.1, P12.2, P12.5: random trees of up to five levels, with messages in all buffers.
func TestRandomTrees(t *testing.T) {
	r := rand.New(rand.NewSource(122))
	levels := map[int]int{}
	for range 6000 {
		x := randomTree(t, r, 5)
		checkReads(t, r, x, 8)
		h := tree.Height(x)
		if !tree.Valid(x) || h != modelHeight(x.Pool, x.Root) {
			t.Fatalf("%v: Valid %v, Height %d", x, tree.Valid(x), h)
		}
		for _, k := range keys {
			_, _, reads, _ := tree.Get(x, k)
			if reads < 1 || reads > h {
				t.Fatalf("%v: Get of %q reads %d nodes, the height is %d", x, k, reads, h)
			}
			levels[reads]++
		}
	}
	for reads := 1; reads <= 5; reads++ {
		if levels[reads] < 50 {
			t.Errorf("%d keys are read with %d nodes", levels[reads], reads)
		}
	}
}

// P12.6: what is scanned in parts is what is scanned in the whole; a key is scanned as it is got; the same for lost nodes.
func TestPartsOfScans(t *testing.T) {
	r := rand.New(rand.NewSource(126))
	failed := 0
	for range 5000 {
		x := randomTree(t, r, 4)
		x = without(x, r.Intn(len(x.Pool.Slots)))
		s := sp(ends[r.Intn(len(ends))], ends[r.Intn(len(ends))])
		pivots := slices.Clone(ends[1:])
		slices.Sort(pivots)
		pivots = slices.DeleteFunc(slices.Compact(pivots), func(string) bool { return r.Intn(3) > 0 })
		whole, wholeErr := tree.Scan(x, s)
		var all []api.Pair
		err := api.OK
		for _, part := range span.Parts(s, pivots) {
			l, partErr := tree.Scan(x, part)
			all = append(all, l...)
			err = max(err, partErr)
		}
		if err != wholeErr || err == api.OK && !slices.Equal(all, whole) {
			t.Fatalf("%v: Scan of %q is %v %d, in parts %v %d", x, s, whole, wholeErr, all, err)
		}
		if err != api.OK {
			failed++
		}
		for _, k := range keys {
			checkAlone(t, x, k)
		}
	}
	if failed < 500 || failed > 4500 {
		t.Errorf("%d scans failed", failed)
	}
}

// checkAlone compares Scan of one key with Get.
func checkAlone(t *testing.T, x api.Tree, k string) {
	t.Helper()
	p, ok, _, err := tree.Get(x, k)
	l, scanErr := tree.Scan(x, span.One(k))
	q, found := table.Find(l, k)
	if p != q || ok != found || len(l) > 1 || err != scanErr {
		t.Fatalf("%v: Get of %q: %v %v %d; Scan: %v %d", x, k, p, ok, err, l, scanErr)
	}
}

// P12.7: in random trees some nodes are lost, and just what needs them is not read.
func TestLostNodes(t *testing.T) {
	r := rand.New(rand.NewSource(127))
	for range 5000 {
		x := randomTree(t, r, 4)
		var lost []int
		for range 1 + r.Intn(2) {
			lost = append(lost, r.Intn(len(x.Pool.Slots)))
		}
		checkReads(t, r, x, 4, lost...)
		y := without(x, lost...)
		if tree.Valid(y) || tree.Height(y) != modelHeight(y.Pool, y.Root) {
			t.Fatalf("%v: Valid %v, Height %d", y, tree.Valid(y), tree.Height(y))
		}
	}
}

// P12.7, L2, L3: without the root, nothing is read, not even an empty span.
func TestLostRoot(t *testing.T) {
	for _, x := range []api.Tree{example(t), lay(t, leaf())} {
		y := without(x, x.Root)
		for _, k := range keys {
			checkGet(t, x, contentOf(x), k, x.Root)
		}
		for _, s := range []api.Span{{}, sp("b", "a"), sp("a", "a"), sp("x", "")} {
			if l, err := tree.Scan(y, s); len(l) != 0 || err != api.ErrLost {
				t.Errorf("Scan of %q: %v %d", s, l, err)
			}
		}
	}
	x := lay(t, above(list(put("a", "1", 1)), leaf(), "b", leaf()))
	for _, s := range []api.Span{sp("b", "a"), sp("a", "a"), sp("a", "a\x00")} {
		if l, err := tree.Scan(without(x, 0, 1), s); !slices.Equal(l, where([]api.Pair{pair("a", "1", 1)}, s)) || err != api.OK {
			t.Errorf("Scan of %q without leaves: %v %d", s, l, err)
		}
	}
}

// P12.7: a lost slot is not read, even if it still has a node.
func TestLostWithNode(t *testing.T) {
	x := example(t)
	y := changed(x, x.Pool.Slots[x.Root].Node.Kids[0], func(s *api.Slot) { s.Lost = true })
	if _, _, _, err := tree.Get(y, "c/x"); err != api.ErrLost {
		t.Errorf("Get: %d", err)
	}
	if _, err := tree.Scan(y, sp("c/", "")); err != api.ErrLost || tree.Valid(y) {
		t.Errorf("Scan: %d, Valid %v", err, tree.Valid(y))
	}
	z := changed(x, x.Root, func(s *api.Slot) { s.Lost = true })
	if _, err := tree.Add(z, del("k")); err != api.ErrLost || tree.Height(z) != 1 {
		t.Errorf("Add: %d, Height %d", err, tree.Height(z))
	}
}

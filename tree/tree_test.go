package tree_test

import (
	"slices"
	"strings"
	"testing"

	"downspout/api"
	"downspout/tree"
)

// example is that of the chapter.
func example(t *testing.T) api.Tree {
	t.Helper()
	return lay(t, above(list(move("a/", "c/")), leaf(pair("a/x", "1", 0)), "b/", leaf()))
}

// P12.1, L2, L3: the example of the chapter.
func TestExample(t *testing.T) {
	x := example(t)
	if p, ok, reads, err := tree.Get(x, "c/x"); p != pair("c/x", "1", 0) || !ok || reads != 2 || err != api.OK {
		t.Errorf("Get of c/x: %v %v %d %d", p, ok, reads, err)
	}
	if p, ok, reads, err := tree.Get(x, "a/x"); p != (api.Pair{}) || ok || reads != 1 || err != api.OK {
		t.Errorf("Get of a/x: %v %v %d %d", p, ok, reads, err)
	}
	if l, err := tree.Scan(x, api.Span{}); !slices.Equal(l, []api.Pair{pair("c/x", "1", 0)}) || err != api.OK {
		t.Errorf("Scan of all: %v %d", l, err)
	}
	if !tree.Valid(x) || tree.Height(x) != 2 {
		t.Errorf("Valid %v, Height %d", tree.Valid(x), tree.Height(x))
	}
}

// P12.8, L1: all shapes with numbers in and around the ranges; new trees are empty and valid.
func TestShapes(t *testing.T) {
	wild := []int{-1 << 63, -2, 1000, 1<<63 - 1}
	numbers := slices.Concat(wild, upTo(70))
	for _, a := range numbers {
		for _, b := range numbers {
			for _, sh := range []api.Shape{{Leaf: a, Fan: b, Buf: 1}, {Leaf: a, Fan: 2, Buf: b}, {Leaf: 64, Fan: a, Buf: b}} {
				checkShape(t, sh, 2 <= sh.Leaf && sh.Leaf <= 64 && 2 <= sh.Fan && sh.Fan <= 16 && 1 <= sh.Buf && sh.Buf <= 64)
			}
		}
	}
}

// upTo returns the numbers from -1 up to n.
func upTo(n int) []int {
	var l []int
	for i := -1; i <= n; i++ {
		l = append(l, i)
	}
	return l
}

func checkShape(t *testing.T, sh api.Shape, right bool) {
	t.Helper()
	x, err := tree.New(sh)
	other := example(t)
	other.Shape = sh
	if tree.Valid(other) != right {
		t.Fatalf("a tree with the shape %v: Valid is not %v", sh, right)
	}
	if !right {
		if err != api.ErrShape || !sameTree(x, api.Tree{}) {
			t.Fatalf("New of %v: %v %d", sh, x, err)
		}
		return
	}
	want := api.Tree{Pool: api.Pool{Slots: []api.Slot{{Used: true, Refs: 1}}}, Shape: sh}
	if err != api.OK || !sameTree(x, want) || !tree.Valid(x) || tree.Height(x) != 1 {
		t.Fatalf("New of %v: %v %d", sh, x, err)
	}
}

// P12.8: nothing is found in a new tree, and its root is read.
func TestNewIsEmpty(t *testing.T) {
	x, _ := tree.New(shape)
	for _, k := range slices.Concat(ends, []string{"\x00", "\xff", strings.Repeat("k", 70000)}) {
		if p, ok, reads, err := tree.Get(x, k); p != (api.Pair{}) || ok || reads != 1 || err != api.OK {
			t.Errorf("Get of %q: %v %v %d %d", k, p, ok, reads, err)
		}
		if l, err := tree.Scan(x, sp("", k)); len(l) != 0 || err != api.OK {
			t.Errorf("Scan up to %q: %v %d", k, l, err)
		}
	}
}

// chain returns a sketch of so many levels, with one kid each but for the last one.
func chain(levels int, end *sketch, buf ...api.Msg) *sketch {
	for range levels - 1 {
		end = above(buf, end)
	}
	return end
}

// P12.1, L5: the height is that of the first kids; what is lost counts as a leaf.
func TestHeight(t *testing.T) {
	for levels := 1; levels <= 64; levels++ {
		x := lay(t, chain(levels, leaf(pair("k", "v", 1)), put("l", "", levels)))
		if got := tree.Height(x); got != levels || !tree.Valid(x) {
			t.Errorf("%d levels: %d, Valid %v", levels, got, tree.Valid(x))
		}
		n, lost := x, x.Root
		for at := 1; at <= levels; at++ {
			if got := tree.Height(without(x, lost)); got != at {
				t.Errorf("%d levels, lost at %d: %d", levels, at, got)
			}
			if kids := n.Pool.Slots[lost].Node.Kids; len(kids) > 0 {
				lost = kids[0]
			}
		}
	}
	x := lay(t, above(nil, above(nil, leaf()), "m", above(nil, leaf(), "n", leaf())))
	second := x.Pool.Slots[x.Root].Node.Kids[1]
	if got := tree.Height(without(x, second)); got != 3 {
		t.Errorf("lost is the second kid: %d", got)
	}
}

// P12.1, P12.3, L4: a leaf gets the effect of a message of each kind, and another root gets the message itself.
func TestAddWrittenOut(t *testing.T) {
	pairs := []api.Pair{pair("a/x", "1", 5), pair("a/y", "2", 5), pair("b/x", "3", 5)}
	for _, c := range []struct {
		m    api.Msg
		want []api.Pair
	}{
		{put("a/xx", "4", 6), []api.Pair{pairs[0], pair("a/xx", "4", 6), pairs[1], pairs[2]}},
		{put("a/x", "", 0), []api.Pair{pair("a/x", "", 0), pairs[1], pairs[2]}},
		{del("a/y"), []api.Pair{pairs[0], pairs[2]}},
		{drop("a/x", "b/"), pairs[2:]},
		{move("a/", "b/"), []api.Pair{pair("b/x", "1", 5), pair("b/y", "2", 5)}},
		{clone("a/", "c/"), []api.Pair{pairs[0], pairs[1], pairs[2], pair("c/x", "1", 5), pair("c/y", "2", 5)}},
		{stamp("a/y", "", 9), []api.Pair{pairs[0], pair("a/y", "2", 9), pair("b/x", "3", 9)}},
	} {
		alone := lay(t, leaf(pairs...))
		x, err := tree.Add(alone, c.m)
		want := api.Tree{Pool: api.Pool{Slots: []api.Slot{{}, {Used: true, Refs: 1, Node: api.Node{Pairs: c.want}}}}, Root: 1, Shape: shape}
		if err != api.OK || !sameTree(x, want) {
			t.Errorf("a leaf, %v: %v %d", c.m, x, err)
		}
		high := lay(t, above(list(put("a/x", "1", 5)), leaf(), "b/", leaf(pairs[2])))
		x, err = tree.Add(high, c.m)
		n := high.Pool.Slots[2].Node
		n.Buf = list(put("a/x", "1", 5), c.m)
		want = api.Tree{Pool: api.Pool{Slots: []api.Slot{high.Pool.Slots[0], high.Pool.Slots[1], {}, {Used: true, Refs: 1, Node: n}}}, Root: 3, Shape: shape}
		if err != api.OK || !sameTree(x, want) || !tree.Valid(x) {
			t.Errorf("a root with kids, %v: %v %d", c.m, x, err)
		}
	}
}

// P12.1, L4: messages that are not valid are refused, whatever the root is; a lost root is told after that.
func TestAddRefuses(t *testing.T) {
	invalid := list(api.Msg{}, api.Msg{Kind: 7, Key: "k"}, put("", "v", 1), put("k", strings.Repeat("v", 65), 1), put("k", "v", 1000000001), del(strings.Repeat("k", 65536)), drop("b", "a"), drop("a", "a"), move("a/", "a/x"), clone("", "b"), stamp("a", "", -1), api.Msg{Kind: api.Del, Key: "k", N: 1})
	x, y := example(t), lay(t, leaf(pair("k", "v", 1)))
	for _, x := range []api.Tree{x, y, without(x, x.Root), without(y, y.Root)} {
		for _, m := range invalid {
			if got, err := tree.Add(x, m); err != api.ErrMsg || !sameTree(got, x) {
				t.Errorf("%v: %v %d", m, got, err)
			}
		}
	}
	for _, x := range []api.Tree{without(x, x.Root), without(y, y.Root)} {
		if got, err := tree.Add(x, del("k")); err != api.ErrLost || !sameTree(got, x) {
			t.Errorf("a lost root: %v %d", got, err)
		}
	}
}

// P12.1, L4: a tree whose pool is full stays as it is; with one free slot, this has the new root.
func TestAddToFullPool(t *testing.T) {
	for _, x := range []api.Tree{example(t), lay(t, leaf(pair("k", "v", 1)))} {
		const last = api.MaxNodes - 1
		for len(x.Pool.Slots) <= last {
			x.Pool.Slots = append(x.Pool.Slots, api.Slot{Used: true, Refs: 1})
		}
		if got, err := tree.Add(x, del("k")); err != api.ErrFull || !sameTree(got, x) {
			t.Errorf("%d", err)
		}
		if got, err := tree.Add(x, api.Msg{}); err != api.ErrMsg || !sameTree(got, x) {
			t.Errorf("no message: %d", err)
		}
		y := x
		y.Pool = dropped(t, x.Pool, last)
		got, err := tree.Add(y, put("l", "", 1))
		if err != api.OK || got.Root != last || got.Pool.Slots[x.Root].Used || !tree.Valid(got) {
			t.Errorf("one is free: the root %d, %d", got.Root, err)
		}
	}
}

// P12.3, L4: keys of 65535 bytes leave a tree valid. Longer ones, which only a Move or a Clone makes, do not, if they are in a leaf.
func TestLongKeys(t *testing.T) {
	long := "a/" + strings.Repeat("k", 65533)
	x := lay(t, leaf(pair(long, "v", 1)))
	for i, c := range []struct {
		m     api.Msg
		valid bool
	}{{move("a/", "b/"), true}, {put("c/"+long[2:], "", 1), true}, {clone("a/k", "b/"), true}, {move("a/", "b/x"), false}, {clone("a", "c/"), false}} {
		got, err := tree.Add(x, c.m)
		if err != api.OK || tree.Valid(got) != c.valid || len(got.Pool.Slots[got.Root].Node.Pairs) < 1 {
			t.Errorf("message %d: Valid %v, %d", i, tree.Valid(got), err)
		}
	}
	y := lay(t, above(list(move("a/", "b/xyz")), leaf(pair(long, "v", 1))))
	longer := "b/xyz" + long[2:]
	p, ok, reads, err := tree.Get(y, longer)
	if p != pair(longer, "v", 1) || !ok || reads != 2 || err != api.OK || !tree.Valid(y) {
		t.Errorf("Get of a longer key: %v %d %d", ok, reads, err)
	}
	if l, err := tree.Scan(y, sp("b/", "c/")); !slices.Equal(l, []api.Pair{p}) || err != api.OK {
		t.Errorf("Scan of a longer key: %d pairs, %d", len(l), err)
	}
}

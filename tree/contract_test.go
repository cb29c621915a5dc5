package tree_test

import (
	"math/rand"
	"slices"
	"strconv"
	"strings"
	"testing"

	"downspout/api"
	"downspout/node"
	"downspout/tree"
)

// callAll calls all functions, whose results do not matter.
func callAll(x api.Tree) {
	for _, k := range []string{"", "a/x", "b/x", "\xff"} {
		tree.Get(x, k)
		tree.Scan(x, sp(k, ""))
	}
	tree.Scan(x, api.Span{})
	tree.Scan(x, sp("b", "a"))
	tree.Add(x, del("a/x"))
	tree.Valid(x)
	tree.Height(x)
}

// slot returns a slot with a node that may be anything.
func slot(r *rand.Rand, size int) api.Slot {
	ms := list(api.Msg{}, api.Msg{Kind: 99}, drop("b", "a"), clone("", "a/"), clone("a/", "a/x"), move("b", ""), clone("a/", "b/"), clone("b/", "a/"), clone("b/", "c/"), move("b/x", "a/x"), drop("a/", "a/x"), put("a/x", "1", -1), put("", "1", 1), stamp("", "", 7))
	texts := []string{"", "", "a/x", "b", "b/x", "c", "\xff"}
	n := api.Node{}
	for range r.Intn(4) {
		n.Kids = append(n.Kids, r.Intn(size+2)-1)
		n.Buf = append(n.Buf, ms[r.Intn(len(ms))])
	}
	for range max(0, len(n.Kids)-r.Intn(10)/3) {
		n.Pivots = append(n.Pivots, texts[r.Intn(len(texts))])
	}
	for range r.Intn(4) {
		n.Pairs = append(n.Pairs, pair(texts[r.Intn(len(texts))], "v", -1))
		n.Sums = append(n.Sums, api.Sum{})
	}
	return api.Slot{Used: r.Intn(9) > 0, Lost: r.Intn(9) == 0, Refs: r.Intn(3) - 1, Node: n}
}

// P1, L1: trees of any values, with circles among them, are accepted without failing.
func TestOddTrees(t *testing.T) {
	r := rand.New(rand.NewSource(129))
	for range 20000 {
		x := api.Tree{Root: r.Intn(3) - 1, Shape: shape}
		size := r.Intn(5)
		for range size {
			x.Pool.Slots = append(x.Pool.Slots, slot(r, size))
		}
		callAll(x)
		checkValid(t, x)
	}
	for _, x := range []api.Tree{{}, {Root: -1 << 63}, {Root: 1<<63 - 1, Shape: shape}, {Pool: api.Pool{Slots: make([]api.Slot, 1)}, Shape: shape}} {
		callAll(x)
		if _, _, reads, err := tree.Get(x, "a"); reads != 0 || err == api.OK || checkValid(t, x) || tree.Height(x) != 1 {
			t.Errorf("%v: %d %d", x, reads, err)
		}
	}
}

// ladder returns a tree in which each node is several times a kid of the one before, so that there are more ways down than anybody could go; the last one may be the first one.
func ladder(size, kids int, round bool, n api.Node) api.Tree {
	x := api.Tree{Shape: shape}
	for i := range size {
		next := i + 1
		if round {
			next %= size
		}
		n.Kids, n.Sums = slices.Repeat([]int{next}, kids), make([]api.Sum, kids)
		x.Pool.Slots = append(x.Pool.Slots, api.Slot{Used: true, Refs: kids, Node: n})
	}
	x.Pool.Slots = append(x.Pool.Slots, api.Slot{Used: true, Refs: kids, Node: api.Node{Pairs: []api.Pair{pair("a/x", "1", 1), pair("b/x", "1", 1)}}})
	return x
}

// P1: ladders and circles, also with pivots that would let several kids have the same keys, and with messages that bring them the same keys.
func TestLadders(t *testing.T) {
	copies := list(clone("d", "ax"), clone("e", "bx"), clone("a", "d"), clone("b", "e"), clone("e", "ay"), clone("d", "by"))
	for _, pivots := range [][]string{{"b"}, {""}, {"b", ""}, {"", ""}, {"c", "b"}, {"c", "a"}, {"b", "b"}, {"", "b"}, nil} {
		for _, buf := range [][]api.Msg{nil, copies, list(move("a", "b")), slices.Repeat(list(clone("a", "b"), clone("b", "a")), 30)} {
			for _, size := range []int{1, 2, 3, 60, 64, 300} {
				for kind := range 4 {
					x := ladder(size, 2+kind%2, kind < 2, api.Node{Pivots: pivots, Buf: buf})
					callAll(x)
					if tree.Valid(x) || kind >= 2 && tree.Height(x) != min(size+1, 64) {
						t.Errorf("%d nodes, %d: Valid %v, Height %d", size, kind, tree.Valid(x), tree.Height(x))
					}
				}
			}
		}
	}
	circle := api.Tree{Pool: api.Pool{Slots: []api.Slot{{Used: true, Refs: 2, Node: api.Node{Kids: []int{0}, Sums: make([]api.Sum, 1)}}}}, Shape: shape}
	callAll(circle)
	if tree.Valid(circle) {
		t.Error("a circle is valid")
	}
	if p, ok, reads, err := tree.Get(circle, "k"); p != (api.Pair{}) || ok || reads != 0 || err == api.OK {
		t.Errorf("Get in a circle: %v %v %d %d", p, ok, reads, err)
	}
	if l, err := tree.Scan(circle, api.Span{}); len(l) > 0 || err == api.OK {
		t.Errorf("Scan in a circle: %v %d", l, err)
	}
}

// P1, P12.2: a buffer of Clones, each of which copies all that is there, has so many keys that nobody could list them; but single ones are read, and short spans.
func TestManyClones(t *testing.T) {
	const bits = 60
	var buf []api.Msg
	for i := bits; i > 0; i-- {
		front := strings.Repeat("0", i-1)
		buf = append(buf, clone(front+"0", front+"1"))
	}
	low, high := buf[:bits/2], buf[bits/2:]
	first := leaf(pair(strings.Repeat("0", bits), "v", 1))
	for i, x := range []api.Tree{lay(t, above(buf, first)), lay(t, above(buf, first, "1", leaf())), lay(t, above(high, above(low, first)))} {
		for _, number := range []int{0, 1, 1<<bits - 1, 1<<bits - 2, 0x5a5a5a5a5a5a5a5} {
			k := strconv.FormatInt(int64(1<<bits+number), 2)[1:]
			if p, ok, _, err := tree.Get(x, k); p != pair(k, "v", 1) || !ok || err != api.OK {
				t.Errorf("tree %d: Get of %s: %v %v %d", i, k, p, ok, err)
			}
			checkAlone(t, x, k)
			l, err := tree.Scan(x, sp(k[:bits-4]+"0", k[:bits-4]+"1010"))
			if err != api.OK || len(l) != 10 || l[9].Key != k[:bits-4]+"1001" || l[0].Key != k[:bits-4]+"0000" {
				t.Errorf("tree %d: Scan near %s: %v %d", i, k, l, err)
			}
		}
	}
}

// P1: trees with 64 levels, with messages and pivots at each of them, and with nodes that are much greater than the shape says.
func TestLargeTrees(t *testing.T) {
	deep := leaf(asPairs(keys)...)
	for i := range 63 {
		deep = above(list(move("a/", "e/"), clone("e/", "a/"), put("k", "v", i), stamp("a/", "a0", i)), deep, "z"+strconv.Itoa(100+i), chain(i+1, leaf()))
	}
	x := lay(t, deep)
	r := rand.New(rand.NewSource(130))
	if !tree.Valid(x) || tree.Height(x) != 64 {
		t.Errorf("Valid %v, Height %d", tree.Valid(x), tree.Height(x))
	}
	checkReads(t, r, x, 1)
	const many = 1500
	wide := &sketch{}
	var want []api.Pair
	for i := range many {
		k := strconv.Itoa(2*many + i)
		if i > 0 {
			wide.pivots = append(wide.pivots, k)
		}
		wide.kids = append(wide.kids, leaf(pair(k, "v", i)))
		wide.buf = append(wide.buf, put(k+"x", "w", i))
		want = append(want, pair(k, "v", i), pair(k+"x", "w", i))
	}
	y := lay(t, wide)
	if l, err := tree.Scan(y, api.Span{}); !slices.Equal(l, want) || err != api.OK || !tree.Valid(y) {
		t.Errorf("a wide tree: %d pairs, %d", len(l), err)
	}
	z := lay(t, leaf(want...))
	for i := range want {
		p, ok, reads, _ := tree.Get(y, want[i].Key)
		q, found, one, _ := tree.Get(z, want[i].Key)
		if p != want[i] || q != want[i] || !ok || !found || reads != 2-i%2 || one != 1 {
			t.Fatalf("Get of %v: %v %d, and %v", want[i], p, reads, q)
		}
	}
}

// roomy returns a list that has other elements behind it.
func roomy[E any](l []E, behind E) []E {
	return append(slices.Clone(l), slices.Repeat([]E{behind}, 20)...)[:len(l)]
}

// roomyTree returns a tree whose lists have other elements behind them.
func roomyTree(x api.Tree) api.Tree {
	x.Pool.Slots = roomy(x.Pool.Slots, api.Slot{Used: true, Refs: 9})
	for i := range x.Pool.Slots {
		n := &x.Pool.Slots[i].Node
		n.Pairs, n.Pivots, n.Kids = roomy(n.Pairs, pair("room", "", 0)), roomy(n.Pivots, "room"), roomy(n.Kids, 7)
		n.Sums, n.Buf = roomy(n.Sums, api.Sum{}), roomy(n.Buf, del("room"))
	}
	return x
}

// allOf returns a tree with all that is behind its lists.
func allOf(x api.Tree) api.Tree {
	slots := slices.Clone(x.Pool.Slots[:cap(x.Pool.Slots)])
	for i := range x.Pool.Slots {
		n := &slots[i].Node
		n.Pairs, n.Pivots, n.Kids, n.Sums, n.Buf = n.Pairs[:cap(n.Pairs)], n.Pivots[:cap(n.Pivots)], n.Kids[:cap(n.Kids)], n.Sums[:cap(n.Sums)], n.Buf[:cap(n.Buf)]
	}
	x.Pool.Slots = slots
	return x
}

func copyOf(x api.Tree) api.Tree {
	x.Pool.Slots = slices.Clone(x.Pool.Slots)
	for i := range x.Pool.Slots {
		n := &x.Pool.Slots[i].Node
		n.Pairs, n.Pivots, n.Kids, n.Sums, n.Buf = slices.Clone(n.Pairs), slices.Clone(n.Pivots), slices.Clone(n.Kids), slices.Clone(n.Sums), slices.Clone(n.Buf)
	}
	return x
}

// P2 and L6: results are the same again, and no function modifies an argument, or what lies behind it.
func TestTreesStay(t *testing.T) {
	r := rand.New(rand.NewSource(131))
	for range 400 {
		x := roomyTree(randomTree(t, r, 4))
		want := copyOf(allOf(x))
		ms := list(put("a/x", "v", 1), move("a/", "b/"), drop("a", "c"))
		for _, m := range ms {
			y, _ := tree.Add(x, m)
			z, _ := tree.Add(x, m)
			tree.Add(y, del("a/y"))
			if !sameTree(y, z) {
				t.Fatalf("Add of %v: %v, and then %v", m, y, z)
			}
		}
		s := sp(ends[r.Intn(len(ends))], "")
		first, _ := tree.Scan(x, s)
		then := slices.Clone(first)
		for i := range first {
			first[i].Key += "changed"
		}
		_ = append(first, pair("added", "", 0))
		if again, _ := tree.Scan(x, s); !slices.Equal(again, then) {
			t.Fatalf("Scan of %q: %v, and then %v", s, then, again)
		}
		callAll(x)
		if !sameTree(allOf(x), want) {
			t.Fatalf("%v is changed", want)
		}
	}
}

// P12.3: the sums of a tree are right after any messages, since they are those of kids.
func TestSumsStay(t *testing.T) {
	r := rand.New(rand.NewSource(132))
	for range 300 {
		x := randomTree(t, r, 4)
		for _, m := range someMessages(r, api.Span{}, 8) {
			x, _ = tree.Add(x, m)
		}
		for _, s := range x.Pool.Slots {
			for i, kid := range s.Node.Kids {
				if s.Node.Sums[i] != node.Sum(x.Pool.Slots[kid].Node) {
					t.Fatalf("%v: the sum of %d is %v", x, kid, s.Node.Sums[i])
				}
			}
		}
	}
}

package tree_test

import (
	"math/rand"
	"slices"
	"testing"

	"downspout/api"
	"downspout/msg"
	"downspout/pool"
	"downspout/tree"
)

// version is a root that a caller holds, with what its tree has.
type version struct {
	root int
	all  []api.Pair
}

// writer is a caller who adds messages to a tree, and holds some of its versions.
type writer struct {
	x    api.Tree
	all  []api.Pair // what a plain table has
	held []version
}

func (w *writer) roots() []int {
	roots := []int{w.x.Root}
	for _, v := range w.held {
		roots = append(roots, v.root)
	}
	return roots
}

// hold holds the version that is there now.
func (w *writer) hold(t *testing.T) {
	t.Helper()
	p, err := pool.Hold(w.x.Pool, w.x.Root)
	if err != api.OK {
		t.Fatalf("Hold: %d", err)
	}
	w.x.Pool = p
	w.held = append(w.held, version{w.x.Root, w.all})
}

// add adds a message, and compares the pool with what the chapter says of it.
func (w *writer) add(t *testing.T, m api.Msg) {
	t.Helper()
	old := w.x
	x, err := tree.Add(old, m)
	if err != api.OK {
		t.Fatalf("%v: Add of %v: %d", old, m, err)
	}
	n := old.Pool.Slots[old.Root].Node
	if len(n.Kids) > 0 {
		n.Buf = slices.Concat(n.Buf, list(m))
	} else {
		n.Pairs = msg.Apply(n.Pairs, m)
	}
	p, root, _ := pool.Add(old.Pool, n)
	want := api.Tree{Pool: dropped(t, p, old.Root), Root: root, Shape: old.Shape}
	if !sameTree(x, want) {
		t.Fatalf("%v: Add of %v: %v, not %v", old, m, x, want)
	}
	w.x, w.all = x, msg.Apply(w.all, m)
}

// check reads the tree, and all versions that are held.
func (w *writer) check(t *testing.T, r *rand.Rand) {
	t.Helper()
	if !tree.Valid(w.x) || !pool.Sound(w.x.Pool, w.roots()) {
		t.Fatalf("%v: Valid %v, not sound for %v", w.x, tree.Valid(w.x), w.roots())
	}
	for _, v := range append(w.held, version{w.x.Root, w.all}) {
		x := w.x
		x.Root = v.root
		if l, err := tree.Scan(x, api.Span{}); !slices.Equal(l, v.all) || err != api.OK {
			t.Fatalf("%v: Scan of all: %v %d, not %v", x, l, err, v.all)
		}
		checkGet(t, x, v.all, keys[r.Intn(len(keys))])
	}
}

// P12.3, P12.4, T1: messages that are added to new trees, and to random ones; versions that are held stay.
func TestScripts(t *testing.T) {
	r := rand.New(rand.NewSource(123))
	for i := range 250 {
		var w writer
		w.x, _ = tree.New(api.Shape{Leaf: 4, Fan: 3, Buf: 2})
		if i%3 > 0 {
			w.x = randomTree(t, r, 4)
		}
		w.all = contentOf(w.x)
		for range 25 {
			switch r.Intn(8) {
			case 0:
				w.hold(t)
			case 1:
				if len(w.held) > 0 {
					w.x.Pool = dropped(t, w.x.Pool, w.held[0].root)
					w.held = w.held[1:]
				}
			default:
				for _, m := range someMessages(r, api.Span{}, 2) {
					w.add(t, m)
				}
			}
			w.check(t, r)
		}
	}
}

// P12.3, P12.7: messages are added to damaged trees, and just what needs lost nodes is not read.
func TestAddToDamagedTrees(t *testing.T) {
	r := rand.New(rand.NewSource(124))
	for range 400 {
		x := randomTree(t, r, 4)
		lost := r.Intn(len(x.Pool.Slots))
		y := without(x, lost)
		for _, m := range someMessages(r, api.Span{}, 6) {
			whole, _ := tree.Add(x, m)
			damaged, err := tree.Add(y, m)
			if (err == api.ErrLost) != (lost == y.Root) || err != api.OK && !sameTree(damaged, y) {
				t.Fatalf("%v: Add of %v: %v %d", y, m, damaged, err)
			}
			if err != api.OK {
				break
			}
			x, y = whole, damaged
			if !sameTree(y, without(x, lost)) {
				t.Fatalf("%v, not %v without %d", y, x, lost)
			}
			checkReads(t, r, x, 2, lost)
		}
	}
}

// P12.4: the old tree has its old content if its root was held once more, and is gone otherwise.
func TestVersions(t *testing.T) {
	for _, x := range []api.Tree{example(t), lay(t, leaf(pair("c/x", "1", 0)))} {
		old, want := x.Root, contentOf(x)
		p, _ := pool.Hold(x.Pool, old)
		y, err := tree.Add(api.Tree{Pool: p, Root: old, Shape: shape}, put("c/x", "2", 2))
		if l, _ := tree.Scan(y, api.Span{}); !slices.Equal(l, []api.Pair{pair("c/x", "2", 2)}) || err != api.OK {
			t.Errorf("the new tree: %v %d", l, err)
		}
		y.Root = old
		if l, err := tree.Scan(y, api.Span{}); !slices.Equal(l, want) || err != api.OK || !tree.Valid(y) {
			t.Errorf("the old tree: %v %d", l, err)
		}
		z, _ := tree.Add(x, put("c/x", "2", 2))
		if z.Pool.Slots[old].Used || pool.Live(z.Pool) != pool.Live(x.Pool) {
			t.Errorf("the old root is left: %v", z)
		}
	}
}

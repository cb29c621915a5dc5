package node_test

import (
	"slices"
	"strings"
	"testing"

	"downspout/api"
	"downspout/node"
)

// checkValid compares whether a node is valid for some spans with the model, and returns for how many it is.
// P10.5: if it is valid for one, it is for each that covers it.
func checkValid(t *testing.T, n api.Node, all []api.Span) int {
	t.Helper()
	var valid, not []api.Span
	for _, s := range all {
		got := node.Valid(n, s)
		if got != modelValid(n, s) {
			t.Fatalf("Valid(%#v, %q): %v", n, s, got)
		}
		if got {
			valid = append(valid, s)
		} else {
			not = append(not, s)
		}
	}
	for _, s := range valid {
		for _, wide := range not {
			if modelCovers(wide, s) {
				t.Fatalf("%#v is valid for %q, but not for %q", n, s, wide)
			}
		}
	}
	return len(valid)
}

// P10.1, J1: the example of the chapter, and other nodes, written out.
func TestValidWrittenOut(t *testing.T) {
	one := func(change func(n *api.Node)) api.Node {
		n := inner(make([]api.Sum, 2), []string{"b"}, del("b/x"))
		change(&n)
		return n
	}
	for i, c := range []struct {
		n    api.Node
		s    api.Span
		want bool
	}{
		{api.Node{}, sp("", ""), true}, {api.Node{}, sp("b", "a"), true}, {api.Node{Kids: []int{}, Buf: list()}, sp("a", "a"), true},
		{inner(make([]api.Sum, 1), nil), sp("", ""), true}, {inner(make([]api.Sum, 1), []string{"b"}), sp("", ""), false}, {inner(make([]api.Sum, 1), nil), sp("b", "a"), true},
		{one(func(n *api.Node) {}), sp("", ""), true}, {one(func(n *api.Node) {}), sp("a", "c"), true}, {one(func(n *api.Node) {}), sp("b", "c"), false},
		{one(func(n *api.Node) {}), sp("a", "b"), false}, {one(func(n *api.Node) {}), sp("a", "b/x"), false}, {one(func(n *api.Node) {}), sp("a", "b/x\x00"), true},
		{one(func(n *api.Node) { n.Pairs = []api.Pair{pair("a", "", 0)} }), sp("", ""), false}, {one(func(n *api.Node) { n.Kids = nil }), sp("", ""), false},
		{one(func(n *api.Node) { n.Kids = n.Kids[:1] }), sp("", ""), false}, {one(func(n *api.Node) { n.Sums = nil }), sp("", ""), false},
		{one(func(n *api.Node) { n.Kids[1] = n.Kids[0] }), sp("", ""), true}, {one(func(n *api.Node) { n.Kids[1] = 0 }), sp("", ""), true},
		{api.Node{Pivots: []string{"b"}}, sp("", ""), false}, {api.Node{Sums: make([]api.Sum, 1)}, sp("", ""), false}, {api.Node{Buf: list(del("k"))}, sp("", ""), false},
		{one(func(n *api.Node) { n.Buf = list(move("a/", "b/")) }), sp("a/", "b0"), true}, {one(func(n *api.Node) { n.Buf = list(move("a/", "b/")) }), sp("a/", "b/z"), false},
		{one(func(n *api.Node) { n.Buf = list(clone("a/", "b/")) }), sp("a/\x00", "b0"), false}, {one(func(n *api.Node) { n.Buf = list(stamp("b", "", 0)) }), sp("a", "\xff"), false},
		{inner(make([]api.Sum, 2), []string{long(65536)}), sp("", ""), true},
	} {
		if got := node.Valid(c.n, c.s); got != c.want {
			t.Errorf("case %d: %v", i, got)
		}
	}
}

// P10.1, P10.5, J1: leaves in all spans, with all small tables, and pairs at their limits and beyond.
func TestValidLeaves(t *testing.T) {
	all, valid := spans(), 0
	for set := range 1 << len(texts) {
		var l []api.Pair
		for i, k := range texts {
			if set>>i&1 == 1 {
				l = append(l, pair(k, "v", i))
			}
		}
		valid += checkValid(t, leaf(l...), all)
		slices.Reverse(l)
		checkValid(t, leaf(l...), all)
		checkValid(t, leaf(append(l, l...)...), all)
	}
	for _, k := range []string{"", "a", "\x00", long(65535), long(65536)} {
		for _, v := range []string{"", long(64), long(65)} {
			for _, n := range []int{-1 << 63, -1, 0, 1000000000, 1000000001, 1 << 32, 1<<63 - 1} {
				for _, l := range [][]api.Pair{{pair(k, v, n)}, {pair("\x00\x00", "", 1), pair(k, v, n)}, {pair(k, v, n), pair("z", "", 1)}} {
					valid += checkValid(t, leaf(l...), all)
				}
			}
		}
	}
	if valid == 0 {
		t.Error("no leaf is valid")
	}
}

// sumLists are bounds of some kids, in their ranges and beyond, at each place.
func sumLists() [][]api.Sum {
	var l [][]api.Sum
	for _, r := range []api.Range{{}, {Hi: most}, {Lo: most, Hi: most}, {Lo: 3, Hi: 3}, {Lo: 3, Hi: 2}, {Lo: -1}, {Lo: -1, Hi: -1}, {Hi: most + 1}, {Lo: most + 1, Hi: most}, {Lo: 1}, {Hi: 1<<63 - 1}, {Lo: -1 << 63}} {
		l = append(l, []api.Sum{{Inodes: r}}, []api.Sum{{Bytes: r}}, []api.Sum{{}, {Inodes: r}}, []api.Sum{{Bytes: r}, {}}, []api.Sum{{}, {Bytes: r}, {}}, []api.Sum{{Inodes: r}, {Bytes: r}, {}})
	}
	return append(l, nil)
}

// P10.1, J1: nodes with kids and bounds, in their ranges and beyond.
func TestValidKids(t *testing.T) {
	valid := 0
	pivots := [][]string{nil, {"b"}, {"b", "c"}, {"a", "b", "c"}}
	for _, kid := range []int{-1 << 63, -1, 0, 1, 4095, 4096, 1<<63 - 1} {
		for _, kids := range [][]int{nil, {kid}, {1, kid}, {kid, kid, 2}, {0, 1, 2, kid}} {
			for _, sums := range sumLists() {
				for _, p := range pivots {
					n := api.Node{Kids: kids, Sums: sums, Pivots: p}
					valid += checkValid(t, n, []api.Span{{}, sp("a", ""), sp("", "c")})
					n.Pairs = []api.Pair{pair("a", "", 0)}
					checkValid(t, n, []api.Span{{}})
				}
			}
		}
	}
	if valid == 0 {
		t.Error("no node is valid")
	}
}

// P10.1, P10.5, J1: nodes with all pairs of pivots, and with messages, in all spans.
func TestValidPivotsAndBuffers(t *testing.T) {
	all, valid := spans(), 0
	for _, p := range append(texts, "") {
		valid += checkValid(t, inner(make([]api.Sum, 2), []string{p}), all)
		for _, q := range append(texts, "", long(70000)) {
			valid += checkValid(t, inner(make([]api.Sum, 3), []string{p, q}), all)
			checkValid(t, inner(make([]api.Sum, 4), []string{p, q, "b/"}), all)
		}
	}
	for _, buf := range buffers() {
		valid += checkValid(t, inner(make([]api.Sum, 1), nil, buf...), all)
		checkValid(t, inner(make([]api.Sum, 2), []string{"a/x"}, buf...), all)
		checkValid(t, api.Node{Buf: buf}, all[:1])
	}
	if valid == 0 {
		t.Error("no node is valid")
	}
}

// P10.1, P10.7, J2: as many pairs, kids and messages as the shape allows, and one more; those that the node cannot have do not matter.
func TestOver(t *testing.T) {
	const few = 4
	for i := range few * few * few {
		n := api.Node{Pairs: make([]api.Pair, i%few), Kids: make([]int, i/few%few), Buf: make([]api.Msg, i/few/few)}
		for j := range (few + 1) * (few + 1) * (few + 1) {
			sh := api.Shape{Leaf: j%(few+1) - 1, Fan: j/(few+1)%(few+1) - 1, Buf: j/(few+1)/(few+1) - 1}
			want := len(n.Kids) > sh.Fan || len(n.Buf) > sh.Buf
			if len(n.Kids) == 0 {
				want = len(n.Pairs) > sh.Leaf
			}
			if got := node.Over(n, sh); got != want {
				t.Fatalf("Over of %d pairs, %d kids and %d messages, %+v: %v", len(n.Pairs), len(n.Kids), len(n.Buf), sh, got)
			}
		}
	}
	limits := api.Shape{Leaf: api.MaxLeaf, Fan: api.MaxFan, Buf: api.MaxBuf}
	for _, more := range []int{0, 1} {
		for _, n := range []api.Node{{Pairs: make([]api.Pair, 64+more)}, {Kids: make([]int, 16+more)}, {Kids: make([]int, 16), Buf: make([]api.Msg, 64+more)}} {
			if got := node.Over(n, limits); got != (more == 1) {
				t.Errorf("Over at the limits and %d more: %v", more, got)
			}
		}
	}
}

// P10.1, P10.4, J3: the spans of kids, written out; a leaf has none.
func TestSpansWrittenOut(t *testing.T) {
	two := inner(make([]api.Sum, 3), []string{"b", "c"})
	for i, c := range []struct {
		n    api.Node
		s    api.Span
		want []api.Span
	}{
		{api.Node{}, sp("", ""), nil}, {leaf(pair("a", "", 0)), sp("a", "b"), nil}, {inner(make([]api.Sum, 1), nil), sp("a", "z"), []api.Span{sp("a", "z")}},
		{two, sp("", ""), []api.Span{sp("", "b"), sp("b", "c"), sp("c", "")}}, {two, sp("a", "d"), []api.Span{sp("a", "b"), sp("b", "c"), sp("c", "d")}},
	} {
		if got := node.Spans(c.n, c.s); !slices.Equal(got, c.want) {
			t.Errorf("case %d: %q", i, got)
		}
	}
}

// P10.4: the spans of kids have all keys of a span, each one once, and in the order of the kids.
func TestSpansHaveAllKeys(t *testing.T) {
	checked := 0
	for set := range 1 << len(texts) {
		var pivots []string
		for i, k := range texts {
			if set>>i&1 == 1 {
				pivots = append(pivots, k)
			}
		}
		n := inner(make([]api.Sum, len(pivots)+1), pivots)
		for _, s := range spans() {
			if node.Valid(n, s) {
				checkSpans(t, n, s)
				checked++
			}
		}
	}
	if checked == 0 {
		t.Error("no node is valid")
	}
}

// checkSpans checks the spans of kids at the texts, and just before and after them.
func checkSpans(t *testing.T, n api.Node, s api.Span) {
	t.Helper()
	parts := node.Spans(n, s)
	if len(parts) != len(n.Kids) {
		t.Fatalf("%d spans for the pivots %q", len(parts), n.Pivots)
	}
	for _, text := range append(texts, "") {
		for _, k := range []string{text, text + "\x00", text + "\xff", strings.TrimSuffix(text, "/")} {
			// The kid of a key is the one behind all pivots that are not greater.
			kid := 0
			for kid < len(n.Pivots) && n.Pivots[kid] <= k {
				kid++
			}
			for i, part := range parts {
				if modelHas(part, k) != (i == kid && modelHas(s, k)) {
					t.Fatalf("pivots %q, span %q: the part %d is %q, with the key %q", n.Pivots, s, i, part, k)
				}
			}
		}
	}
}

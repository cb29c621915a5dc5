package node_test

import (
	"slices"
	"strconv"
	"testing"

	"downspout/api"
	"downspout/node"
)

// oddNodes are nodes that are not valid, with lists of all lengths, and with what no list of a valid node has.
func oddNodes() []api.Node {
	odd := []api.Msg{{}, {Kind: -1 << 63}, {Kind: 1<<63 - 1}, {Kind: api.Put, Key: long(70000), N: -1}, {Kind: api.Put, Value: long(1 << 17)}, {Kind: api.Move, To: "a/"}, {Kind: api.Clone, From: "a/", To: "a/"}, {Kind: api.Drop, Span: sp("b", "a")}, {Kind: api.Stamp, N: -5}}
	wild := []api.Sum{sum(-1<<63, 1<<63-1, 1<<63-1, -1<<63), sum(1<<63-1, 1<<63-1, -1, -1), {}}
	pairs := []api.Pair{pair("b", "", -1), pair("", long(1<<17), 1<<62), pair("b", "", 0), pair("a/\x01", "", 0)}
	kids, pivots := []int{-1 << 63, 1<<63 - 1, 0, 4096}, []string{"", "b", "a", long(70000)}
	var l []api.Node
	for i := range 5 * 5 * 5 * 4 * 3 {
		n := api.Node{Kids: kids[:i%5], Pivots: pivots[:i/5%5], Pairs: pairs[:i/25%5], Sums: wild[:i/125%4]}
		switch i / 500 {
		case 1:
			n.Buf = odd
		case 2:
			n.Buf = slices.Concat(odd, moves()[:4])
		}
		l = append(l, n)
	}
	return l
}

// P1: nodes that are not valid are accepted by all functions, and refused by those that say whether they are.
func TestOddArguments(t *testing.T) {
	shapes := []api.Shape{{}, {Leaf: -1 << 63, Fan: -1, Buf: -1}, {Leaf: 1<<63 - 1, Fan: 1<<63 - 1, Buf: 1<<63 - 1}}
	for _, n := range oddNodes() {
		node.Sum(n)
		for _, sh := range shapes {
			node.Over(n, sh)
		}
		for _, s := range []api.Span{{}, sp("b", "a"), sp("a", ""), sp("\xff", "\xff")} {
			node.Spans(n, s)
			if got := node.Valid(n, s); got != modelValid(n, s) {
				t.Fatalf("Valid(%#v, %q): %v", n, s, got)
			}
		}
		if !modelValid(n, api.Span{}) && len(node.Bytes(n)) > 0 {
			t.Fatalf("%#v has bytes", n)
		}
	}
}

// P1, P10.2: a node with a pivot whose length 2 bytes cannot have is valid, but has no bytes, since they could be those of another node.
func TestLongPivots(t *testing.T) {
	for _, size := range []int{65535, 65536, 65537, 131072, 200000} {
		n := inner(make([]api.Sum, 2), []string{long(size)}, put("k", "v", 1))
		if !node.Valid(n, api.Span{}) {
			t.Errorf("a pivot of %d bytes is not valid", size)
		}
		b := node.Bytes(n)
		got, err := node.Parse(b)
		if size <= 65535 && (err != api.OK || !same(got, n)) || size > 65535 && len(b) > 0 {
			t.Errorf("a pivot of %d bytes: %d bytes, %d", size, len(b), err)
		}
	}
}

// P1, P10.2: nodes with many pairs, kids and messages, with the longest keys and values.
func TestLongNodes(t *testing.T) {
	const many = 20000
	var pairs []api.Pair
	var pivots []string
	var buf []api.Msg
	for i := range many {
		k := strconv.Itoa(many + i)
		pairs = append(pairs, pair(k, long(64), 1000000000-i))
		pivots = append(pivots, k)
		buf = append(buf, put(k, long(i%65), i), del(k), move("a/", "b/"))
	}
	pairs = append(pairs, pair(long(65535), "v", 0))
	wide := api.Node{Kids: make([]int, many+1), Sums: slices.Repeat([]api.Sum{sum(1, most, 0, most)}, many+1), Pivots: pivots, Buf: buf}
	for i, n := range []api.Node{leaf(pairs...), wide} {
		if !node.Valid(n, api.Span{}) || !node.Valid(n, sp("1", "z")) || node.Valid(n, sp("3", "")) {
			t.Errorf("node %d: Valid", i)
		}
		b := node.Bytes(n)
		got, err := node.Parse(b)
		checkNode(t, "Parse", got, n)
		if err != api.OK || !slices.Equal(b, modelBytes(n)) {
			t.Errorf("node %d: %d", i, err)
		}
		refused(t, b[:len(b)-1])
		if got := node.Sum(n); got != modelSum(n) {
			t.Errorf("node %d: %v", i, got)
		}
		if parts := node.Spans(n, api.Span{}); len(parts) != len(n.Kids) {
			t.Errorf("node %d: %d spans", i, len(parts))
		}
	}
}

// roomy returns a list that has other elements behind it, and all of them.
func roomy[E any](l []E, behind E) ([]E, []E) {
	room := append(slices.Clone(l), slices.Repeat([]E{behind}, 20)...)
	return room[:len(l)], room
}

// roomyNode returns a node with roomy lists, and the node of all that is in them.
func roomyNode(n api.Node) (api.Node, api.Node) {
	var room api.Node
	n.Pairs, room.Pairs = roomy(n.Pairs, pair("room", "", 0))
	n.Pivots, room.Pivots = roomy(n.Pivots, "room")
	n.Kids, room.Kids = roomy(n.Kids, 7)
	n.Sums, room.Sums = roomy(n.Sums, sum(1, 2, 3, 4))
	n.Buf, room.Buf = roomy(n.Buf, put("room", "", 0))
	return n, room
}

// P2 and J6: results are the same again, and neither the functions nor changes of their results modify an argument, or what lies behind it.
func TestNodesStay(t *testing.T) {
	for _, x := range slices.Concat(nodes(), oddNodes()[:200]) {
		n, room := roomyNode(x)
		want := copyOf(room)
		b, parts, s := node.Bytes(n), node.Spans(n, sp("", "z")), node.Sum(n)
		valid, over := node.Valid(n, sp("", "z")), node.Over(n, api.Shape{Leaf: 1, Fan: 1, Buf: 1})
		bytesThen, partsThen := slices.Clone(b), slices.Clone(parts)
		for i := range b {
			b[i]++
		}
		for i := range parts {
			parts[i].Lo += "changed"
		}
		_, _ = append(b, 1), append(parts, sp("added", ""))
		if !slices.Equal(node.Bytes(n), bytesThen) || !slices.Equal(node.Spans(n, sp("", "z")), partsThen) || node.Sum(n) != s {
			t.Fatalf("%#v: other results", x)
		}
		if node.Valid(n, sp("", "z")) != valid || node.Over(n, api.Shape{Leaf: 1, Fan: 1, Buf: 1}) != over {
			t.Fatalf("%#v: other results", x)
		}
		checkNode(t, "the argument", room, want)
	}
}

// P2 and J6: bytes stay as they are, and a node that was read stays if they change later.
func TestBytesStay(t *testing.T) {
	for _, n := range nodes() {
		b, room := roomy(node.Bytes(n), 76)
		want := slices.Clone(room)
		check := node.Check(b)
		got, _ := node.Parse(b)
		again, _ := node.Parse(b)
		checkNode(t, "again", again, got)
		if !slices.Equal(room, want) || node.Check(b) != check {
			t.Fatalf("%v are changed", want)
		}
		clear(room)
		checkNode(t, "what was read", got, n)
		spoil(again)
		checkNode(t, "what was read first", got, n)
	}
}

// spoil changes all that a node has.
func spoil(n api.Node) {
	clear(n.Pairs)
	clear(n.Pivots)
	clear(n.Kids)
	clear(n.Sums)
	clear(n.Buf)
}

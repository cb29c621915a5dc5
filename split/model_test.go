package split_test

import (
	"slices"
	"strconv"
	"strings"
	"testing"

	"downspout/api"
)

func put(k, v string, n int) api.Msg { return api.Msg{Kind: api.Put, Key: k, Value: v, N: n} }

func del(k string) api.Msg { return api.Msg{Kind: api.Del, Key: k} }

func pair(k, v string, n int) api.Pair { return api.Pair{Key: k, Value: v, Stamp: n} }

func list(l ...api.Msg) []api.Msg { return l }

func long(n int) string { return strings.Repeat("k", n) }

func leaf(l ...api.Pair) api.Node { return api.Node{Pairs: l} }

// sum returns bounds that no other number has.
func sum(n int) api.Sum {
	return api.Sum{Inodes: api.Range{Lo: n, Hi: 2*n + 1}, Bytes: api.Range{Lo: 3 * n, Hi: 1000000000000000 - n}}
}

// inner returns a node with a kid more than pivots, each of which has another id, and other bounds.
func inner(pivots []string, buf ...api.Msg) api.Node {
	n := api.Node{Pivots: pivots, Buf: buf}
	for i := range len(pivots) + 1 {
		n.Kids = append(n.Kids, (4095+i*300)%4096)
		n.Sums = append(n.Sums, sum(i))
	}
	return n
}

// texts returns n texts in order: of one byte and more, some of which begin with others, from the least one to the greatest one.
func texts(n int) []string {
	l := []string{"\x00", "\x00\x00", "a", "a\x00", "a/", "a/\x01", "a/\x02\x01\x00", "a/b/", "a0", "b", "\xff", "\xff\xff", "\xff\xff\x00"}
	for i := range max(0, n-len(l)) {
		l = append(l, "m/"+strconv.Itoa(1000000+i))
	}
	slices.Sort(l)
	return l[:n]
}

// pairs returns a table of n pairs.
func pairs(n int) []api.Pair {
	var l []api.Pair
	for i, k := range texts(n) {
		l = append(l, pair(k, strconv.Itoa(i), i))
	}
	return l
}

// messages returns valid messages of all kinds, with keys on all sides of the texts.
func messages() []api.Msg {
	return list(
		put("\x00", "0", 0), put("a/x", long(64), 1000000000), del("b"), del("\xff\xff\xff"),
		api.Msg{Kind: api.Drop, Span: api.Span{Lo: "a", Hi: "b"}}, api.Msg{Kind: api.Drop},
		api.Msg{Kind: api.Move, From: "a/", To: "m/"}, api.Msg{Kind: api.Clone, From: "m/", To: "a/"},
		api.Msg{Kind: api.Stamp, N: 5}, put("a/x", "1", 2), put("a/x", "1", 2),
	)
}

// The model follows the definitions of the chapter, without regard to speed.

// modelSizes returns how long the pieces of n elements by a number most are: it takes one piece, and then one more, until none is too long.
func modelSizes(n, most int) []int {
	if n == 0 || most < 1 {
		return nil
	}
	for count := 1; ; count++ {
		sizes := make([]int, count)
		for i := range n {
			sizes[i%count]++
		}
		if sizes[0] <= most {
			return sizes
		}
	}
}

// modelCut returns pieces of these sizes.
func modelCut[E any](l []E, sizes []int) [][]E {
	var pieces [][]E
	for _, size := range sizes {
		pieces = append(pieces, l[:size])
		l = l[size:]
	}
	return pieces
}

func modelLeaf(n api.Node, most int) ([]api.Node, []string) {
	var l []api.Node
	for _, p := range modelCut(n.Pairs, modelSizes(len(n.Pairs), most)) {
		l = append(l, leaf(p...))
	}
	if len(l) == 0 {
		return []api.Node{leaf()}, nil
	}
	var pivots []string
	for _, m := range l[1:] {
		pivots = append(pivots, m.Pairs[0].Key)
	}
	return l, pivots
}

func modelInner(n api.Node, most int) ([]api.Node, []string) {
	var l []api.Node
	var pivots []string
	at := 0
	for _, size := range modelSizes(len(n.Kids), most) {
		if at > 0 {
			pivots = append(pivots, n.Pivots[at-1])
		}
		end := at + size
		l = append(l, api.Node{Kids: n.Kids[at:end], Sums: n.Sums[at:end], Pivots: n.Pivots[at : end-1]})
		at = end
	}
	return l, pivots
}

func sameNode(a, b api.Node) bool {
	return slices.Equal(a.Pairs, b.Pairs) && slices.Equal(a.Pivots, b.Pivots) && slices.Equal(a.Kids, b.Kids) && slices.Equal(a.Sums, b.Sums) && slices.Equal(a.Buf, b.Buf)
}

func samePieces(a, b [][]api.Pair) bool { return slices.EqualFunc(a, b, slices.Equal) }

// checkNodes compares nodes and the pivots between them with those that are wanted.
func checkNodes(t *testing.T, what string, got []api.Node, pivots []string, want []api.Node, wantPivots []string) {
	t.Helper()
	if !slices.EqualFunc(got, want, sameNode) || !slices.Equal(pivots, wantPivots) {
		t.Fatalf("%s: %v, pivots %q, not %v, pivots %q", what, got, pivots, want, wantPivots)
	}
}

package split_test

import (
	"slices"
	"testing"

	"downspout/api"
	"downspout/split"
)

// numbers are limits of shapes, among them some that no shape has.
var numbers = []int{-1 << 63, -1, 0, 1, 2, 3, 1 << 62, 1<<63 - 1}

// P1, M4: nodes that are not valid, nodes of the other kind, and shapes that are not right, are accepted, whatever is returned for them.
func TestOddArguments(t *testing.T) {
	all := []api.Pair{pair("b", "", -1), pair("", long(70000), 1<<62), {}, pair("a", "", 0)}
	kids, pivots := []int{-1 << 63, 1<<63 - 1, 0, 4096}, []string{"", "b", "a", long(70000)}
	sums := []api.Sum{{}, {Inodes: api.Range{Lo: 1<<63 - 1, Hi: -1 << 63}}, {}, {Bytes: api.Range{Lo: -1}}}
	for i := range 5 * 5 * 5 * 5 * 2 {
		n := api.Node{Kids: kids[:i%5], Pivots: pivots[:i/5%5], Pairs: all[:i/25%5], Sums: sums[:i/125%5]}
		if i >= 625 {
			n.Buf = list(api.Msg{}, api.Msg{Kind: -1}, put("", long(100), -1))
		}
		for _, most := range numbers {
			sh := api.Shape{Leaf: most, Fan: most, Buf: most}
			split.Pieces(n.Pairs, most)
			split.Leaf(n, sh)
			split.Inner(n, sh)
		}
	}
}

// P1, P13.2, P13.3: long tables, in one piece and in many, and leaves that are far too large.
func TestLongTables(t *testing.T) {
	const many = 200000
	all := pairs(many)
	for _, most := range []int{1, 2, 64, 777, many - 1, many, many + 1, 1<<63 - 1} {
		sizes := lengths(split.Pieces(all, most))
		checkPieces(t, many, most, sizes)
		got, pivots := split.Leaf(leaf(all...), api.Shape{Leaf: most})
		if len(got) != len(sizes) {
			t.Fatalf("by %d: %d leaves", most, len(got))
		}
		checkPivots(t, got, pivots)
	}
}

// P1, P13.4: a node with many kids and messages.
func TestWideNodes(t *testing.T) {
	const many = 50000
	pivots := texts(many)
	n := inner(pivots, slices.Repeat(messages(), 1000)...)
	for _, fan := range []int{1, 2, 16, 999, many, many + 1, many + 2, 1<<63 - 1} {
		got, between, up := split.Inner(n, api.Shape{Fan: fan})
		checkJoined(t, n, got, between)
		if !slices.Equal(up, n.Buf) || len(got) != (many/fan)+1 {
			t.Fatalf("by %d: %d nodes, %d messages", fan, len(got), len(up))
		}
	}
}

// roomy returns a list that has other elements behind it, and all of them.
func roomy[E any](l []E, behind E) ([]E, []E) {
	room := append(slices.Clone(l), slices.Repeat([]E{behind}, 20)...)
	return room[:len(l)], room
}

// roomyNode returns a node with roomy lists, and the node of all that is in them.
func roomyNode(n api.Node) (api.Node, api.Node) {
	var room api.Node
	n.Pairs, room.Pairs = roomy(n.Pairs, pair("room", "", 0))
	n.Pivots, room.Pivots = roomy(n.Pivots, "room")
	n.Kids, room.Kids = roomy(n.Kids, 77)
	n.Sums, room.Sums = roomy(n.Sums, sum(77))
	n.Buf, room.Buf = roomy(n.Buf, del("room"))
	return n, room
}

func copyNode(n api.Node) api.Node {
	return api.Node{Pairs: slices.Clone(n.Pairs), Pivots: slices.Clone(n.Pivots), Kids: slices.Clone(n.Kids), Sums: slices.Clone(n.Sums), Buf: slices.Clone(n.Buf)}
}

func copyNodes(l []api.Node) []api.Node {
	l = slices.Clone(l)
	for i, n := range l {
		l[i] = copyNode(n)
	}
	return l
}

// spoil changes all elements of a list, and those that it has room for.
func spoil[E any](l []E, by E) {
	l = l[:cap(l)]
	for i := range l {
		l[i] = by
	}
}

func spoilNode(n api.Node) {
	spoil(n.Pairs, pair("spoilt", "", 0))
	spoil(n.Pivots, "spoilt")
	spoil(n.Kids, 99)
	spoil(n.Sums, sum(99))
	spoil(n.Buf, del("spoilt"))
}

// P2 and M4: results of Leaf and Inner are the same again; neither these functions nor changes of one of their results modify an argument, what lies behind it, or another result.
func TestArgumentsStay(t *testing.T) {
	for n := range 30 {
		for i, start := range []api.Node{leaf(pairs(n)...), inner(texts(n), messages()[:n%9]...)} {
			x, room := roomyNode(start)
			want := copyNode(room)
			sh := api.Shape{Leaf: n%4 + 1, Fan: n%5 + 1, Buf: 1}
			call := func() (l []api.Node, pivots []string, up []api.Msg) {
				if i == 0 {
					l, pivots = split.Leaf(x, sh)
					return l, pivots, nil
				}
				return split.Inner(x, sh)
			}
			l, pivots, up := call()
			wantNodes, wantPivots, wantUp := copyNodes(l), slices.Clone(pivots), slices.Clone(up)
			for k := range l {
				spoilNode(l[k])
				checkNodes(t, "the nodes behind", l[k+1:], pivots, wantNodes[k+1:], wantPivots)
			}
			spoil(pivots, "spoilt")
			if !slices.Equal(up, wantUp) {
				t.Fatalf("the messages %v", up)
			}
			spoil(up, del("spoilt"))
			l, pivots, up = call()
			checkNodes(t, "again", l, pivots, wantNodes, wantPivots)
			if !slices.Equal(up, wantUp) || !sameNode(room, want) {
				t.Fatalf("%v is %v, messages %v", want, room, up)
			}
		}
	}
}

// P2 and M4: likewise for Pieces.
func TestTablesStay(t *testing.T) {
	for n := range 30 {
		for most := range n + 3 {
			x, room := roomy(pairs(n), pair("room", "", 0))
			want := slices.Clone(room)
			l := split.Pieces(x, most)
			wantPieces := modelCut(slices.Clone(x), modelSizes(n, most))
			for k := range l {
				spoil(l[k], pair("spoilt", "", 0))
				if !samePieces(l[k+1:], wantPieces[k+1:]) {
					t.Fatalf("%d by %d: piece %d is changed with another one", n, most, k+1)
				}
			}
			if !samePieces(split.Pieces(x, most), wantPieces) || !slices.Equal(room, want) {
				t.Fatalf("%d by %d: %v", n, most, room)
			}
		}
	}
}

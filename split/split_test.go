package split_test

import (
	"math/rand"
	"slices"
	"strconv"
	"testing"

	"downspout/api"
	"downspout/node"
	"downspout/span"
	"downspout/split"
)

// P13.1, M1: the examples of the chapter, and other tables, written out.
func TestPiecesWrittenOut(t *testing.T) {
	for i, c := range []struct {
		n, most int
		want    []int
	}{
		{7, 3, []int{3, 2, 2}}, {6, 3, []int{3, 3}}, {0, 3, nil}, {2, 0, nil},
		{0, 0, nil}, {0, 1, nil}, {0, -1, nil}, {0, 1<<63 - 1, nil}, {1, 0, nil}, {5, -1, nil}, {5, -1 << 63, nil},
		{1, 1, []int{1}}, {1, 2, []int{1}}, {1, 1<<63 - 1, []int{1}}, {13, 1<<63 - 1, []int{13}}, {13, 13, []int{13}}, {13, 12, []int{7, 6}},
		{3, 1, []int{1, 1, 1}}, {3, 2, []int{2, 1}}, {4, 3, []int{2, 2}}, {5, 3, []int{3, 2}}, {5, 4, []int{3, 2}}, {8, 3, []int{3, 3, 2}}, {9, 4, []int{3, 3, 3}},
		{10, 4, []int{4, 3, 3}}, {10, 3, []int{3, 3, 2, 2}}, {11, 3, []int{3, 3, 3, 2}}, {11, 4, []int{4, 4, 3}}, {65, 64, []int{33, 32}}, {129, 64, []int{43, 43, 43}},
	} {
		all := pairs(c.n)
		if got := split.Pieces(all, c.most); !samePieces(got, modelCut(all, c.want)) {
			t.Errorf("case %d: %v", i, got)
		}
	}
}

// checkPieces checks what the chapter says of pieces of n elements by most, from how long they are.
func checkPieces(t *testing.T, n, most int, sizes []int) {
	t.Helper()
	all := 0
	for i, size := range sizes {
		all += size
		if size < 1 || size > most || size > sizes[0] || size < sizes[0]-1 || i > 0 && size > sizes[i-1] {
			t.Fatalf("%d by %d: %v", n, most, sizes)
		}
	}
	if all != n || n > 0 && (len(sizes)-1)*most >= n {
		t.Fatalf("%d by %d: %v", n, most, sizes)
	}
}

// lengths returns how long pieces are.
func lengths(l [][]api.Pair) []int {
	var sizes []int
	for _, p := range l {
		sizes = append(sizes, len(p))
	}
	return sizes
}

// P13.1, P13.2, P13.6, M1: all short tables, by all numbers near their lengths.
func TestPieces(t *testing.T) {
	for n := range 150 {
		all := pairs(n)
		for most := 1; most <= n+3; most++ {
			got := split.Pieces(all, most)
			if !slices.Equal(slices.Concat(got...), all) {
				t.Fatalf("%d by %d: %v", n, most, got)
			}
			checkPieces(t, n, most, lengths(got))
			if want := modelSizes(n, most); !slices.Equal(lengths(got), want) {
				t.Fatalf("%d by %d: %v, not %v", n, most, lengths(got), want)
			}
			if n > 0 && n <= most && len(got) != 1 {
				t.Fatalf("%d by %d: %d pieces", n, most, len(got))
			}
		}
		for _, most := range []int{0, -1, -n, -1 << 63} {
			if got := split.Pieces(all, most); len(got) > 0 {
				t.Fatalf("%d by %d: %v", n, most, got)
			}
		}
	}
}

// compositions calls visit with all lists of numbers of at least 1 whose sum is n.
func compositions(n int, front []int, visit func([]int)) {
	if n == 0 {
		visit(front)
	}
	for first := 1; first <= n; first++ {
		compositions(n-first, append(front[:len(front):len(front)], first), visit)
	}
}

// P13.2: of all ways to cut a short table, this is the only one that the chapter allows.
func TestOnlyWay(t *testing.T) {
	for n := range 12 {
		for most := 1; most <= n+1; most++ {
			var best [][]int
			compositions(n, nil, func(l []int) {
				if len(l) > 0 && (slices.Max(l) > most || slices.Max(l)-slices.Min(l) > 1 || !slices.IsSortedFunc(l, func(a, b int) int { return b - a })) {
					return
				}
				if len(best) > 0 && len(best[0]) > len(l) {
					best = nil
				}
				if len(best) == 0 || len(best[0]) == len(l) {
					best = append(best, l)
				}
			})
			if got := lengths(split.Pieces(pairs(n), most)); len(best) != 1 || !slices.Equal(got, best[0]) {
				t.Fatalf("%d by %d: %v, not %v", n, most, got, best)
			}
		}
	}
}

// P13.1, M1: lists of pairs that are no tables are cut, too.
func TestPiecesOfAll(t *testing.T) {
	all := []api.Pair{pair("b", "", -1), pair("b", long(70000), 1<<63-1), {}, {}, pair("a", "x", -1<<63), pair(long(70000), "", 5), pair("b", "", -1)}
	for n := range len(all) + 1 {
		for most := 1; most <= n+1; most++ {
			if got := split.Pieces(all[:n], most); !samePieces(got, modelCut(all[:n], modelSizes(n, most))) {
				t.Fatalf("%d by %d: %v", n, most, lengths(got))
			}
		}
	}
}

// P13.1, M2: the example of the chapter, and other leaves, written out.
func TestLeafWrittenOut(t *testing.T) {
	a, b, c, d, e := pair("a", "1", 1), pair("b", "2", 2), pair("c", "", 0), pair("d", "4", 4), pair("e", "5", 5)
	for i, x := range []struct {
		n      api.Node
		most   int
		want   []api.Node
		pivots []string
	}{
		{leaf(a, b, c), 2, []api.Node{leaf(a, b), leaf(c)}, []string{"c"}},
		{leaf(a, b, c), 1, []api.Node{leaf(a), leaf(b), leaf(c)}, []string{"b", "c"}},
		{leaf(a, b, c), 3, []api.Node{leaf(a, b, c)}, nil},
		{leaf(a, b, c, d, e), 2, []api.Node{leaf(a, b), leaf(c, d), leaf(e)}, []string{"c", "e"}},
		{leaf(a, b, c, d, e), 3, []api.Node{leaf(a, b, c), leaf(d, e)}, []string{"d"}},
		{leaf(a, b, c, d, e), 4, []api.Node{leaf(a, b, c), leaf(d, e)}, []string{"d"}},
		{leaf(a), 1, []api.Node{leaf(a)}, nil},
		{leaf(), 1, []api.Node{leaf()}, nil}, {leaf(), 64, []api.Node{leaf()}, nil}, {api.Node{Pairs: []api.Pair{}, Kids: []int{}}, 2, []api.Node{leaf()}, nil},
		{leaf(pair(long(65534), "", 0), pair(long(65535), "v", 1)), 1, []api.Node{leaf(pair(long(65534), "", 0)), leaf(pair(long(65535), "v", 1))}, []string{long(65535)}},
	} {
		got, pivots := split.Leaf(x.n, api.Shape{Leaf: x.most})
		checkNodes(t, "case "+strconv.Itoa(i), got, pivots, x.want, x.pivots)
	}
}

// spansOf returns spans for which a node with these least and greatest keys or pivots may be valid.
func spansOf(lo, hi string) []api.Span {
	return []api.Span{{}, {Lo: lo}, {Hi: hi + "\x00"}, {Lo: lo, Hi: hi + "\x00"}, {Lo: lo[:len(lo)-1], Hi: hi + "\x00\x00"}}
}

// checkParts checks that nodes are valid for their parts of the spans for which a node is valid, and not beyond the limits; it returns how many these are.
func checkParts(t *testing.T, n api.Node, all []api.Span, l []api.Node, pivots []string, sh api.Shape) int {
	t.Helper()
	valid := 0
	for _, s := range all {
		if !node.Valid(n, s) {
			continue
		}
		parts := span.Parts(s, pivots)
		if len(parts) != len(l) {
			t.Fatalf("%d nodes in %d spans", len(l), len(parts))
		}
		for i, m := range l {
			if !node.Valid(m, parts[i]) || node.Over(m, sh) {
				t.Fatalf("%#v is not valid for %q, or beyond %v", m, parts[i], sh)
			}
		}
		valid++
	}
	return valid
}

// checkPivots checks that pivots between leaves separate their keys.
func checkPivots(t *testing.T, l []api.Node, pivots []string) {
	t.Helper()
	if len(pivots) != len(l)-1 {
		t.Fatalf("%d pivots between %d leaves", len(pivots), len(l))
	}
	for i, m := range l {
		for _, p := range m.Pairs {
			if i > 0 && p.Key < pivots[i-1] || i < len(pivots) && p.Key >= pivots[i] {
				t.Fatalf("%q is in leaf %d, pivots %q", p.Key, i, pivots)
			}
		}
	}
	for i := range pivots {
		if i > 0 && pivots[i-1] >= pivots[i] {
			t.Fatalf("pivots %q", pivots)
		}
	}
}

// P13.1, P13.3, P13.5, P13.6, M2: all leaves with a beginning of the texts, and all numbers of Leaf; Fan and Buf do not matter.
func TestLeaf(t *testing.T) {
	for n := range 140 {
		all := leaf(pairs(n)...)
		for most := 1; most <= n+2; most++ {
			sh := api.Shape{Leaf: most, Fan: n%3 - 1, Buf: most%3 - 1}
			got, pivots := split.Leaf(all, sh)
			want, wantPivots := modelLeaf(all, most)
			checkNodes(t, strconv.Itoa(n)+" by "+strconv.Itoa(most), got, pivots, want, wantPivots)
			checkPivots(t, got, pivots)
			spans := []api.Span{{}, {Lo: "b", Hi: "a"}, {Lo: "b", Hi: "c"}}
			if n > 0 {
				spans = spansOf(all.Pairs[0].Key, all.Pairs[n-1].Key)
			}
			if checkParts(t, all, spans, got, pivots, sh) != len(spans) {
				t.Fatalf("%v is not valid for all of %q", all, spans)
			}
			if n <= most && (len(got) != 1 || !sameNode(got[0], all)) {
				t.Fatalf("%d by %d: %v", n, most, got)
			}
		}
	}
}

// P13.3, P13.5: leaves with random keys, and random shapes that are right.
func TestRandomLeaves(t *testing.T) {
	r := rand.New(rand.NewSource(133))
	for range 3000 {
		keys := map[string]bool{}
		for range r.Intn(200) {
			b := make([]byte, r.Intn(4)+1)
			for i := range b {
				b[i] = "\x00\x01ab/0\xfe\xff"[r.Intn(8)]
			}
			keys[string(b)] = true
		}
		var n api.Node
		for k := range keys {
			n.Pairs = append(n.Pairs, pair(k, k, r.Intn(9)))
		}
		slices.SortFunc(n.Pairs, func(a, b api.Pair) int {
			if a.Key < b.Key {
				return -1
			}
			return 1
		})
		sh := api.Shape{Leaf: r.Intn(63) + 2, Fan: r.Intn(15) + 2, Buf: r.Intn(64) + 1}
		got, pivots := split.Leaf(n, sh)
		want, wantPivots := modelLeaf(n, sh.Leaf)
		checkNodes(t, "a random leaf", got, pivots, want, wantPivots)
		checkPivots(t, got, pivots)
		if checkParts(t, n, []api.Span{{}}, got, pivots, sh) != 1 {
			t.Fatalf("%v is not valid", n)
		}
	}
}

package split_test

import (
	"math/rand"
	"slices"
	"strconv"
	"testing"

	"downspout/api"
	"downspout/node"
	"downspout/split"
)

// checkInner compares Inner with the model, and checks that the messages go up; it returns what Inner returned.
func checkInner(t *testing.T, n api.Node, sh api.Shape) ([]api.Node, []string) {
	t.Helper()
	got, pivots, up := split.Inner(n, sh)
	want, wantPivots := modelInner(n, sh.Fan)
	checkNodes(t, strconv.Itoa(len(n.Kids))+" by "+strconv.Itoa(sh.Fan), got, pivots, want, wantPivots)
	if !slices.Equal(up, n.Buf) {
		t.Fatalf("%d by %d: the messages %v, not %v", len(n.Kids), sh.Fan, up, n.Buf)
	}
	return got, pivots
}

// P13.1, M3: the example of the chapter, and other nodes, written out.
func TestInnerWrittenOut(t *testing.T) {
	bounds := []api.Sum{sum(1), sum(2), sum(3), sum(4), sum(5)}
	five := func(buf ...api.Msg) api.Node {
		return api.Node{Kids: []int{1, 2, 3, 4, 5}, Pivots: []string{"b", "c", "d", "e"}, Sums: bounds, Buf: buf}
	}
	part := func(lo, hi int, pivots ...string) api.Node {
		n := api.Node{Pivots: pivots, Sums: bounds[lo-1 : hi]}
		for k := lo; k <= hi; k++ {
			n.Kids = append(n.Kids, k)
		}
		return n
	}
	one := api.Node{Kids: []int{7}, Sums: []api.Sum{sum(9)}}
	for i, c := range []struct {
		n      api.Node
		fan    int
		want   []api.Node
		pivots []string
	}{
		{five(), 2, []api.Node{part(1, 2, "b"), part(3, 4, "d"), part(5, 5)}, []string{"c", "e"}},
		{five(del("x"), put("b", "v", 1)), 2, []api.Node{part(1, 2, "b"), part(3, 4, "d"), part(5, 5)}, []string{"c", "e"}},
		{five(), 3, []api.Node{part(1, 3, "b", "c"), part(4, 5, "e")}, []string{"d"}},
		{five(del("x")), 4, []api.Node{part(1, 3, "b", "c"), part(4, 5, "e")}, []string{"d"}},
		{five(), 1, []api.Node{part(1, 1), part(2, 2), part(3, 3), part(4, 4), part(5, 5)}, []string{"b", "c", "d", "e"}},
		{five(), 5, []api.Node{part(1, 5, "b", "c", "d", "e")}, nil},
		{five(del("x"), del("x"), del("b")), 16, []api.Node{part(1, 5, "b", "c", "d", "e")}, nil},
		{one, 1, []api.Node{one}, nil}, {one, 2, []api.Node{one}, nil},
	} {
		got, pivots, up := split.Inner(c.n, api.Shape{Fan: c.fan})
		checkNodes(t, "case "+strconv.Itoa(i), got, pivots, c.want, c.pivots)
		if !slices.Equal(up, c.n.Buf) {
			t.Errorf("case %d: the messages %v", i, up)
		}
	}
}

// checkJoined checks that the kids, bounds and pivots of nodes, with the pivots between these, are those of a node.
func checkJoined(t *testing.T, n api.Node, l []api.Node, between []string) {
	t.Helper()
	var all api.Node
	for i, m := range l {
		if i > 0 {
			all.Pivots = append(all.Pivots, between[i-1])
		}
		all.Pivots = append(all.Pivots, m.Pivots...)
		all.Kids = append(all.Kids, m.Kids...)
		all.Sums = append(all.Sums, m.Sums...)
		if len(m.Buf) > 0 || len(m.Pairs) > 0 || len(m.Kids) == 0 {
			t.Fatalf("%v has messages or pairs, or no kids", m)
		}
	}
	all.Buf = n.Buf
	if !sameNode(all, n) || len(between) != len(l)-1 {
		t.Fatalf("%v, not %v", all, n)
	}
}

// P13.1, P13.4, P13.5, P13.6, M3: all nodes with a beginning of the texts as pivots, and all numbers of Fan; Leaf and Buf do not matter.
func TestInner(t *testing.T) {
	ms := messages()
	for n := range 80 {
		pivots := texts(n)
		for fan := 1; fan <= n+3; fan++ {
			all := inner(pivots, ms[:(n+fan)%(len(ms)+1)]...)
			sh := api.Shape{Leaf: n%3 - 1, Fan: fan, Buf: fan%3 - 1}
			got, between := checkInner(t, all, sh)
			checkJoined(t, all, got, between)
			var sizes []int
			for _, m := range got {
				sizes = append(sizes, len(m.Kids))
			}
			checkPieces(t, n+1, fan, sizes)
			sh.Buf = 0
			if checkParts(t, all, []api.Span{{}}, got, between, sh) != 1 {
				t.Fatalf("%v is not valid", all)
			}
			if n+1 <= fan && len(got) != 1 {
				t.Fatalf("%d by %d: %d pieces", n+1, fan, len(got))
			}
		}
	}
}

// P13.5: nodes that are valid for spans whose ends are next to the pivots.
func TestInnerInSpans(t *testing.T) {
	all := texts(13)
	for lo := range all {
		for hi := lo + 1; hi <= len(all); hi++ {
			n := inner(all[lo:hi])
			least := ""
			if lo > 0 {
				least = all[lo-1]
			}
			spans := []api.Span{{}, {Lo: least}, {Hi: all[hi-1] + "\x00"}, {Lo: least, Hi: all[hi-1] + "\x00"}}
			for fan := 1; fan <= len(n.Kids); fan++ {
				sh := api.Shape{Fan: fan}
				got, between := checkInner(t, n, sh)
				if checkParts(t, n, spans, got, between, sh) != len(spans) {
					t.Fatalf("%v is not valid for all of %q", n, spans)
				}
			}
		}
	}
}

// P13.4: nodes that have a kid several times, and several kids with the same bounds.
func TestSameKids(t *testing.T) {
	r := rand.New(rand.NewSource(134))
	ms := messages()
	for range 3000 {
		n := api.Node{Pivots: texts(r.Intn(40))}
		for range len(n.Pivots) + 1 {
			n.Kids = append(n.Kids, []int{0, 1, 4095}[r.Intn(3)])
			n.Sums = append(n.Sums, sum(r.Intn(3)))
		}
		for range r.Intn(100) {
			n.Buf = append(n.Buf, ms[r.Intn(len(ms))])
		}
		got, between := checkInner(t, n, api.Shape{Leaf: 2, Fan: r.Intn(15) + 2, Buf: 1})
		checkJoined(t, n, got, between)
		if !node.Valid(n, api.Span{}) {
			t.Fatalf("%v is not valid", n)
		}
	}
}

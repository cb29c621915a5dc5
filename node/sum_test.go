package node_test

import (
	"math/rand"
	"slices"
	"strconv"
	"testing"

	"downspout/api"
	"downspout/entry"
	"downspout/msg"
	"downspout/node"
	"downspout/path"
	"downspout/table"
)

// P10.1, J4: the example of the chapter, and each row of its table, written out.
func TestSumWrittenOut(t *testing.T) {
	body, other := path.Body(255), path.Body(7)
	for i, c := range []struct {
		buf  []api.Msg
		want api.Sum
	}{
		{list(put("a/\x02\x00\x00", "12345", 0)), sum(4, 6, 36, 145)}, {nil, sum(4, 6, 100, 140)},
		{list(put("a/\x01", "12345", 0)), sum(4, 7, 100, 140)}, {list(put(body+"\x01", "", 0)), sum(4, 7, 100, 140)}, {list(put("\x01", "", 0)), sum(4, 7, 100, 140)},
		{list(put("a/\x03n", "12345", 0)), sum(4, 6, 36, 145)}, {list(put("\x06a/\x01", "12", 0)), sum(4, 6, 36, 142)}, {list(put("a", "", 0)), sum(4, 6, 36, 140)}, {list(put("a/\x02\xea\x61", long(64), 0)), sum(4, 6, 36, 204)},
		{list(del("a/\x01")), sum(3, 6, 100, 140)}, {list(del(body + "\x01")), sum(3, 6, 100, 140)}, {list(del("a/\x02\x00\x00")), sum(4, 6, 36, 140)}, {list(del("\x06a/\x01")), sum(4, 6, 36, 140)}, {list(del("a//\x01")), sum(4, 6, 36, 140)},
		{list(drop("a", "b")), sum(0, 6, 0, 140)}, {list(stamp("", "", 7)), sum(4, 6, 100, 140)},
		{list(move("a/", "b/")), sum(0, 6, 0, 140)}, {list(move(body, other)), sum(0, 6, 0, 140)}, {list(move("\x06a/", "\x06\x07")), sum(0, 6, 0, 140)},
		{list(clone("a/", "b/")), sum(0, 12, 0, 280)}, {list(clone(body, other)), sum(0, 12, 0, 280)}, {list(clone("\x06a/", "\x06\x07")), sum(0, 12, 0, 280)},
		{list(move("a", "b")), sum(0, most, 0, most)}, {list(move("a/", body)), sum(0, most, 0, most)}, {list(clone(body, "\x06")), sum(0, most, 0, most)}, {list(clone("\x06a/", "a/")), sum(0, most, 0, most)}, {list(move("a/\x01", "b/\x01")), sum(0, most, 0, most)},
		{list(del("a/\x02\x00\x00"), del("a/\x02\x00\x00"), put("a/\x03n", "1", 0)), sum(4, 6, 0, 141)},
		{list(drop("", ""), put("a/\x01", "", 0), clone("a/", "b/"), put("b/\x01", "", 0), put("b/\x02\x00\x00", "1", 0)), sum(0, 15, 0, 281)},
		{list(move("a", "b"), put("a/\x01", "", 0), del("a/\x01"), put("b", "1", 0), clone("a/", "b/")), sum(0, most, 0, most)},
	} {
		n := inner([]api.Sum{sum(2, 3, 10, 20), sum(2, 3, 90, 120)}, []string{"b"}, c.buf...)
		if got := node.Sum(n); got != c.want {
			t.Errorf("case %d: %v", i, got)
		}
	}
	n := inner([]api.Sum{sum(2, 3, 10, 20), sum(2, 3, 10, 20)}, []string{"b"}, put("a/\x02\x00\x00", "12345", 0))
	if got := node.Sum(n); got != sum(4, 6, 0, 45) {
		t.Errorf("the example: %v", got)
	}
}

// P10.1, J4: the bounds of leaves are what their pairs are charged.
func TestSumOfLeaves(t *testing.T) {
	if got := node.Sum(api.Node{}); got != (api.Sum{}) {
		t.Errorf("the empty leaf: %v", got)
	}
	var l []api.Pair
	inodes, bytes := 0, 0
	for i, k := range keys {
		l = append(l, pair(k, long(i), i))
		if x, err := path.Place(k); err == api.OK && x.Tag == api.IsEntry {
			inodes++
		} else if err == api.OK && x.Tag != api.IsLink {
			bytes += i
		}
		if got := node.Sum(leaf(l...)); got != sum(inodes, inodes, bytes, bytes) {
			t.Errorf("%#v: %v, not %d inodes and %d bytes", l, got, inodes, bytes)
		}
	}
	if inodes != 5 || bytes == 0 {
		t.Errorf("%d inodes and %d bytes", inodes, bytes)
	}
}

// bounds are numbers at which changes end at their limits, and others.
var bounds = []int{0, 1, 2, 63, 64, 65, 1000, most / 2, most/2 + 1, most - 64, most - 63, most - 1, most}

// P10.1, J4: each message at all bounds.
func TestSumOfMessages(t *testing.T) {
	ms := slices.Concat(moves(), others())
	for i, lo := range bounds {
		for _, hi := range bounds[i:] {
			for j, m := range ms {
				r := api.Range{Lo: lo, Hi: hi}
				x := api.Sum{Inodes: r, Bytes: r}
				if j%2 == 1 {
					x.Inodes = api.Range{Lo: bounds[j%(i+1)], Hi: hi}
				}
				n := inner([]api.Sum{x}, nil, m)
				if got := node.Sum(n); got != modelSum(n) {
					t.Fatalf("Sum(%#v): %v, not %v", n, got, modelSum(n))
				}
			}
		}
	}
}

// P10.1, J4: sums of many kids end at the greatest bound, even if an int could not have them.
func TestSumOfKids(t *testing.T) {
	for _, k := range []int{1, 2, 3, 16, 9000, 10000, 20000} {
		var pivots []string
		for i := range k - 1 {
			pivots = append(pivots, strconv.Itoa(100000+i))
		}
		for _, c := range []struct{ kid, want api.Sum }{
			{sum(1, 2, 3, 4), sum(k, 2*k, 3*k, 4*k)}, {sum(most, most, most, most), sum(most, most, most, most)}, {sum(0, most, 1, most), sum(0, most, k, most)},
		} {
			if got := node.Sum(inner(slices.Repeat([]api.Sum{c.kid}, k), pivots)); got != c.want {
				t.Errorf("%d kids with %v: %v", k, c.kid, got)
			}
		}
	}
	if got := node.Sum(inner([]api.Sum{sum(0, most-1, 5, 6), sum(0, 1, 5, 6)}, []string{"b"})); got != sum(0, most, 10, 12) {
		t.Errorf("just the greatest bound: %v", got)
	}
}

// randomTable returns a table with some of the keys.
func randomTable(r *rand.Rand) []api.Pair {
	var l []api.Pair
	for i, k := range keys {
		if r.Intn(2) == 0 {
			l = append(l, pair(k, long(r.Intn(65)), i))
		}
	}
	return l
}

// within reports whether a use is within bounds, which are bounds of a valid node.
func within(u api.Use, s api.Sum) bool {
	in := func(n int, r api.Range) bool {
		return 0 <= r.Lo && r.Lo <= n && n <= r.Hi && r.Hi <= most
	}
	return in(u.Inodes, s.Inodes) && in(u.Bytes, s.Bytes)
}

// loose returns bounds of a use, some of which are wider than the use.
func loose(r *rand.Rand, u api.Use) api.Sum {
	wider := func(n int) api.Range {
		if r.Intn(2) == 0 {
			return api.Range{Lo: n, Hi: n}
		}
		return api.Range{Lo: max(0, n-r.Intn(100)), Hi: n + r.Intn(100)}
	}
	return api.Sum{Inodes: wider(u.Inodes), Bytes: wider(u.Bytes)}
}

// P10.3: the use of the content is within the bounds, whatever the messages are, and even if the kids have bounds that are wider than their use.
func TestBoundsHold(t *testing.T) {
	r := rand.New(rand.NewSource(103))
	ms, exact := slices.Concat(moves(), others(), others(), others()), 0
	for range 40000 {
		pairs := randomTable(r)
		n := api.Node{Kids: []int{1, 2}, Pivots: []string{keys[r.Intn(len(keys))]}}
		for _, s := range node.Spans(n, api.Span{}) {
			n.Sums = append(n.Sums, loose(r, entry.Total(table.Range(pairs, s))))
		}
		for range r.Intn(5) {
			n.Buf = append(n.Buf, ms[r.Intn(len(ms))])
		}
		use, got := entry.Total(msg.All(pairs, n.Buf)), node.Sum(n)
		if got != modelSum(n) || !within(use, got) {
			t.Fatalf("%#v with %#v: %v, not %v, with the use %v", n, pairs, got, modelSum(n), use)
		}
		if got == sum(use.Inodes, use.Inodes, use.Bytes, use.Bytes) {
			exact++
		}
	}
	if exact < 500 {
		t.Errorf("only %d bounds are exact", exact)
	}
}

// P10.3: a node above another one gets its bounds from those that the other one has.
func TestBoundsOfBounds(t *testing.T) {
	r := rand.New(rand.NewSource(104))
	ms := others()
	for range 10000 {
		pairs, n := randomTable(r), leaf()
		n.Pairs = pairs
		for range 4 {
			n = inner([]api.Sum{node.Sum(n)}, nil, ms[r.Intn(len(ms))], ms[r.Intn(len(ms))])
			pairs = msg.All(pairs, n.Buf)
			if use := entry.Total(pairs); !node.Valid(n, api.Span{}) || !within(use, node.Sum(n)) {
				t.Fatalf("%#v: %v, with the use %v", n, node.Sum(n), use)
			}
		}
	}
}

package tree_test

import (
	"math/rand"
	"slices"
	"testing"

	"downspout/api"
	"downspout/msg"
	"downspout/node"
	"downspout/pool"
	"downspout/span"
	"downspout/tree"
)

func sp(lo, hi string) api.Span { return api.Span{Lo: lo, Hi: hi} }

func put(k, v string, n int) api.Msg { return api.Msg{Kind: api.Put, Key: k, Value: v, N: n} }

func del(k string) api.Msg { return api.Msg{Kind: api.Del, Key: k} }

func drop(lo, hi string) api.Msg { return api.Msg{Kind: api.Drop, Span: sp(lo, hi)} }

func move(from, to string) api.Msg { return api.Msg{Kind: api.Move, From: from, To: to} }

func clone(from, to string) api.Msg { return api.Msg{Kind: api.Clone, From: from, To: to} }

func stamp(lo, hi string, n int) api.Msg { return api.Msg{Kind: api.Stamp, Span: sp(lo, hi), N: n} }

func pair(k, v string, n int) api.Pair { return api.Pair{Key: k, Value: v, Stamp: n} }

func list(l ...api.Msg) []api.Msg { return l }

// sketch is a node that is to be laid out in a pool, with all below it. One that stands in several places is one node.
type sketch struct {
	pairs  []api.Pair
	pivots []string
	kids   []*sketch
	buf    []api.Msg
}

func leaf(l ...api.Pair) *sketch { return &sketch{pairs: l} }

// above returns a sketch with a pivot before each kid but the first one.
func above(buf []api.Msg, first *sketch, more ...any) *sketch {
	s := &sketch{kids: []*sketch{first}, buf: buf}
	for i := 0; i < len(more); i += 2 {
		s.pivots, s.kids = append(s.pivots, more[i].(string)), append(s.kids, more[i+1].(*sketch))
	}
	return s
}

var shape = api.Shape{Leaf: 2, Fan: 2, Buf: 1}

// lay returns a tree as it is sketched, whose pool has nothing else.
func lay(t *testing.T, s *sketch) api.Tree {
	t.Helper()
	ids := map[*sketch]int{}
	p := s.add(t, api.Pool{}, ids)
	for kid, id := range ids {
		if kid != s {
			p = dropped(t, p, id)
		}
	}
	return api.Tree{Pool: p, Root: ids[s], Shape: shape}
}

// add adds the nodes that are not in a pool yet; it holds each of them once more than their kids.
func (s *sketch) add(t *testing.T, p api.Pool, ids map[*sketch]int) api.Pool {
	t.Helper()
	if _, done := ids[s]; done {
		return p
	}
	n := api.Node{Pairs: s.pairs, Pivots: s.pivots, Buf: s.buf}
	for _, kid := range s.kids {
		p = kid.add(t, p, ids)
		n.Kids = append(n.Kids, ids[kid])
		n.Sums = append(n.Sums, node.Sum(p.Slots[ids[kid]].Node))
	}
	p, id, err := pool.Add(p, n)
	if err != api.OK {
		t.Fatalf("pool.Add: %d", err)
	}
	ids[s] = id
	return p
}

func dropped(t *testing.T, p api.Pool, id int) api.Pool {
	t.Helper()
	p, err := pool.Drop(p, id)
	if err != api.OK {
		t.Fatalf("pool.Drop of %d: %d", id, err)
	}
	return p
}

// changed returns a tree in which one slot is another one.
func changed(t api.Tree, id int, change func(s *api.Slot)) api.Tree {
	t.Pool.Slots = slices.Clone(t.Pool.Slots)
	change(&t.Pool.Slots[id])
	return t
}

// without returns a tree in which some nodes are lost.
func without(t api.Tree, ids ...int) api.Tree {
	for _, id := range ids {
		t = changed(t, id, func(s *api.Slot) { s.Lost, s.Node = true, api.Node{} })
	}
	return t
}

func sameNode(a, b api.Node) bool {
	return slices.Equal(a.Pairs, b.Pairs) && slices.Equal(a.Pivots, b.Pivots) && slices.Equal(a.Kids, b.Kids) && slices.Equal(a.Sums, b.Sums) && slices.Equal(a.Buf, b.Buf)
}

func sameTree(a, b api.Tree) bool {
	return a.Root == b.Root && a.Shape == b.Shape && slices.EqualFunc(a.Pool.Slots, b.Pool.Slots, func(a, b api.Slot) bool {
		return a.Used == b.Used && a.Lost == b.Lost && a.Refs == b.Refs && sameNode(a.Node, b.Node)
	})
}

// The model follows the words of the chapter, without regard to speed. The trees that are given to it must be valid.

func has(s api.Span, k string) bool { return k >= s.Lo && (s.Hi == "" || k < s.Hi) }

// where returns the pairs of a table that are in a span.
func where(t []api.Pair, s api.Span) []api.Pair {
	return slices.DeleteFunc(slices.Clone(t), func(p api.Pair) bool { return !has(s, p.Key) })
}

// content returns the content of a node.
func content(p api.Pool, id int) []api.Pair {
	n := p.Slots[id].Node
	all := slices.Clone(n.Pairs)
	for _, kid := range n.Kids {
		all = append(all, content(p, kid)...)
	}
	return msg.All(all, n.Buf)
}

func contentOf(t api.Tree) []api.Pair { return content(t.Pool, t.Root) }

func modelHeight(p api.Pool, id int) int {
	if s := p.Slots[id]; !s.Lost && len(s.Node.Kids) > 0 {
		return modelHeight(p, s.Node.Kids[0]) + 1
	}
	return 1
}

// mark is a value that no message has.
const mark = "a pair that was marked"

// modelFollow finds out from the effect of a buffer on marked pairs whether a key is known, or which key it comes from.
func modelFollow(k string, buf []api.Msg) (string, bool) {
	from := []string{k}
	for _, m := range slices.Backward(buf) {
		for _, k := range from {
			if old, ok := span.Moved(k, m.To, m.From); ok && (m.Kind == api.Move || m.Kind == api.Clone) {
				from = append(from, old)
			}
		}
	}
	for _, old := range from {
		for _, p := range msg.All([]api.Pair{pair(old, mark, 0)}, buf) {
			if p.Key == k && p.Value == mark {
				return old, false
			}
		}
	}
	return "", true
}

// modelWay returns the nodes that are read for a key.
func modelWay(p api.Pool, id int, k string) []int {
	n := p.Slots[id].Node
	if len(n.Kids) == 0 {
		return []int{id}
	}
	k, known := modelFollow(k, n.Buf)
	if known {
		return []int{id}
	}
	kid := 0
	for kid < len(n.Pivots) && n.Pivots[kid] <= k {
		kid++
	}
	return append(modelWay(p, n.Kids[kid], k), id)
}

// modelReads returns the nodes that are read for a span: the root, and each one in which a key is that, marked, is in the span in the end.
func modelReads(t api.Tree, s api.Span) []int {
	reads := []int{t.Root}
	var visit func(id int, at api.Span, tries []string, up func([]api.Pair) []api.Pair)
	visit = func(id int, at api.Span, tries []string, up func([]api.Pair) []api.Pair) {
		n := t.Pool.Slots[id].Node
		tries = sorted(append(origins(tries, n.Buf), n.Pivots...))
		after := func(l []api.Pair) []api.Pair { return up(msg.All(l, n.Buf)) }
		counts := func(k string) bool {
			return slices.ContainsFunc(after([]api.Pair{pair(k, mark, 0)}), func(p api.Pair) bool { return p.Value == mark && has(s, p.Key) })
		}
		for i, part := range span.Parts(at, n.Pivots) {
			inside := slices.DeleteFunc(slices.Clone(tries), func(k string) bool { return !has(part, k) })
			if len(n.Kids) > 0 && slices.ContainsFunc(inside, counts) {
				reads = append(reads, n.Kids[i])
				visit(n.Kids[i], part, inside, after)
			}
		}
	}
	visit(t.Root, api.Span{}, []string{"", s.Lo}, func(l []api.Pair) []api.Pair { return l })
	return reads
}

// origins returns keys from which some keys may come through messages, and those that messages make the first of some that count: wherever keys count, the least of them is one of these.
func origins(tries []string, l []api.Msg) []string {
	for _, m := range slices.Backward(l) {
		for _, k := range tries {
			if old, ok := span.Moved(k, m.To, m.From); ok && m.To != "" {
				tries = append(tries, old)
			}
		}
		tries = append(tries, m.Key+"\x00", m.Span.Hi, m.From, span.Prefix(m.From).Hi, span.Prefix(m.To).Hi)
	}
	return tries
}

func sorted(l []string) []string {
	slices.Sort(l)
	return slices.Compact(l)
}

// modelValid reports whether a tree is valid.
func modelValid(t api.Tree) bool {
	sh := t.Shape
	_, ok := modelNode(t.Pool, t.Root, api.Span{}, 64)
	return ok && 2 <= sh.Leaf && sh.Leaf <= 64 && 2 <= sh.Fan && sh.Fan <= 16 && 1 <= sh.Buf && sh.Buf <= 64
}

// modelNode returns the height of a node, if it and all below are as they are in a valid tree of at most so many levels.
func modelNode(p api.Pool, id int, s api.Span, levels int) (int, bool) {
	if levels == 0 || id < 0 || id >= len(p.Slots) || !p.Slots[id].Used || p.Slots[id].Lost || !node.Valid(p.Slots[id].Node, s) {
		return 0, false
	}
	n, first := p.Slots[id].Node, 0
	for i, part := range node.Spans(n, s) {
		h, ok := modelNode(p, n.Kids[i], part, levels-1)
		if !ok || i > 0 && h != first || n.Sums[i] != node.Sum(p.Slots[n.Kids[i]].Node) {
			return 0, false
		}
		first = h
	}
	return first + 1, true
}

// checkGet compares Get with the content, and with what must be read; some nodes may be lost.
func checkGet(t *testing.T, x api.Tree, all []api.Pair, k string, lost ...int) {
	t.Helper()
	p, ok, reads, err := tree.Get(without(x, lost...), k)
	way := modelWay(x.Pool, x.Root, k)
	if slices.ContainsFunc(way, func(id int) bool { return slices.Contains(lost, id) }) {
		if p != (api.Pair{}) || ok || reads != 0 || err != api.ErrLost {
			t.Fatalf("%v, without %v: Get of %q: %v %v %d %d", x, lost, k, p, ok, reads, err)
		}
		return
	}
	var want api.Pair
	there := where(all, span.One(k))
	if len(there) > 0 {
		want = there[0]
	}
	if p != want || ok != (len(there) > 0) || reads != len(way) || err != api.OK {
		t.Fatalf("%v, without %v: Get of %q: %v %v %d %d, not %v and %d", x, lost, k, p, ok, reads, err, there, len(way))
	}
}

// checkScan compares Scan with the content, and with what must be read; some nodes may be lost.
func checkScan(t *testing.T, x api.Tree, all []api.Pair, s api.Span, lost ...int) {
	t.Helper()
	want, wantErr := where(all, s), api.OK
	if len(lost) > 0 && slices.ContainsFunc(modelReads(x, s), func(id int) bool { return slices.Contains(lost, id) }) {
		want, wantErr = nil, api.ErrLost
	}
	if l, err := tree.Scan(without(x, lost...), s); !slices.Equal(l, want) || err != wantErr {
		t.Fatalf("%v, without %v: Scan of %q: %v %d, not %v %d", x, lost, s, l, err, want, wantErr)
	}
}

// keys, ends and fronts are the texts of random trees, and kinds has the messages for them, by their kinds.
var (
	keys   = []string{"a/", "a/x", "a/xx", "a/xy", "a/y", "b/", "b/x", "b/xx", "b/y", "c/", "c/x", "c/xy", "d"}
	ends   = slices.Concat([]string{"", "a", "a0", "a/x0", "b0", "c", "e"}, keys)
	fronts = []string{"a/", "a/x", "a/xx", "a/y", "b", "b/x", "b/y", "c/", "c/xy", "e/"}
	kinds  = messages()
)

// messages returns messages of all kinds. Of those for spans, few are for many keys, lest nothing is left to be read.
func messages() [api.Stamp + 1][]api.Msg {
	var l [api.Stamp + 1][]api.Msg
	add := func(m api.Msg) {
		if msg.Valid(m) {
			l[m.Kind] = append(l[m.Kind], m)
		}
	}
	for i, k := range keys {
		add(put(k, "new "+string(rune('a'+i)), 100+i))
		add(del(k))
	}
	for i, lo := range ends {
		for j, hi := range ends {
			if len(where(asPairs(keys), sp(lo, hi))) < 4 || (i+j)%9 == 0 {
				add(drop(lo, hi))
			}
			add(stamp(lo, hi, 200+i))
		}
	}
	for _, from := range fronts {
		for _, to := range fronts {
			add(move(from, to))
			add(clone(from, to))
		}
	}
	return l
}

// stays reports whether a message stays in a span.
func stays(m api.Msg, s api.Span) bool {
	for _, part := range append(msg.Reads(m), msg.Writes(m)...) {
		if !span.Covers(s, part) {
			return false
		}
	}
	return true
}

// someMessages returns up to so many messages that stay in a span. Half of them give pairs other keys.
func someMessages(r *rand.Rand, s api.Span, most int) []api.Msg {
	var l []api.Msg
	for range 3 * r.Intn(most+1) {
		kind := []int{api.Put, api.Del, api.Drop, api.Stamp, api.Move, api.Move, api.Clone, api.Clone}[r.Intn(8)]
		if m := kinds[kind][r.Intn(len(kinds[kind]))]; stays(m, s) && len(l) < most {
			l = append(l, m)
		}
	}
	return l
}

func asPairs(keys []string) []api.Pair {
	var l []api.Pair
	for i, k := range keys {
		l = append(l, pair(k, "old "+string(rune('a'+i)), i))
	}
	return l
}

// randomSketch returns a sketch for a span; what has no pairs and messages is sometimes the same node in several places.
func randomSketch(r *rand.Rand, s api.Span, height int, bare []*sketch) *sketch {
	if r.Intn(12) == 0 {
		return bare[height-1]
	}
	if height == 1 {
		some := where(asPairs(keys), s)
		return leaf(slices.DeleteFunc(some, func(api.Pair) bool { return r.Intn(3) == 0 })...)
	}
	n := &sketch{buf: someMessages(r, s, 5)}
	for range r.Intn(4) {
		if k := ends[r.Intn(len(ends))]; k > s.Lo && has(s, k) {
			n.pivots = append(n.pivots, k)
		}
	}
	slices.Sort(n.pivots)
	n.pivots = slices.Compact(n.pivots)
	for _, part := range span.Parts(s, n.pivots) {
		n.kids = append(n.kids, randomSketch(r, part, height-1, bare))
	}
	return n
}

// randomTree returns a valid tree of up to so many levels.
func randomTree(t *testing.T, r *rand.Rand, most int) api.Tree {
	t.Helper()
	bare := []*sketch{leaf()}
	for len(bare) < most {
		bare = append(bare, above(nil, bare[len(bare)-1]))
	}
	return lay(t, randomSketch(r, api.Span{}, 1+r.Intn(most), bare))
}

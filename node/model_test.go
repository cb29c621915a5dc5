package node_test

import (
	"encoding/binary"
	"slices"
	"strings"
	"testing"

	"downspout/api"
	"downspout/entry"
	"downspout/msg"
	"downspout/path"
	"downspout/span"
)

const most = 1000000000000000

func sp(lo, hi string) api.Span { return api.Span{Lo: lo, Hi: hi} }

func put(k, v string, n int) api.Msg { return api.Msg{Kind: api.Put, Key: k, Value: v, N: n} }

func del(k string) api.Msg { return api.Msg{Kind: api.Del, Key: k} }

func drop(lo, hi string) api.Msg { return api.Msg{Kind: api.Drop, Span: sp(lo, hi)} }

func move(from, to string) api.Msg { return api.Msg{Kind: api.Move, From: from, To: to} }

func clone(from, to string) api.Msg { return api.Msg{Kind: api.Clone, From: from, To: to} }

func stamp(lo, hi string, n int) api.Msg { return api.Msg{Kind: api.Stamp, Span: sp(lo, hi), N: n} }

func pair(k, v string, n int) api.Pair { return api.Pair{Key: k, Value: v, Stamp: n} }

func list(l ...api.Msg) []api.Msg { return l }

func long(n int) string { return strings.Repeat("k", n) }

func sum(a, b, c, d int) api.Sum {
	return api.Sum{Inodes: api.Range{Lo: a, Hi: b}, Bytes: api.Range{Lo: c, Hi: d}}
}

func leaf(l ...api.Pair) api.Node { return api.Node{Pairs: l} }

// inner returns a node with as many kids as sums.
func inner(sums []api.Sum, pivots []string, buf ...api.Msg) api.Node {
	n := api.Node{Pivots: pivots, Sums: sums, Buf: buf}
	for i := range sums {
		n.Kids = append(n.Kids, 4095-i*300)
	}
	return n
}

// The model follows the definitions of the chapter word by word, without regard to speed.

func modelEmpty(s api.Span) bool { return s.Hi != "" && s.Hi <= s.Lo }

func modelHas(s api.Span, k string) bool { return k >= s.Lo && (s.Hi == "" || k < s.Hi) }

// modelCovers reports whether a has all keys of b: if b has any, it has Lo, and those just below Hi.
func modelCovers(a, b api.Span) bool {
	return modelEmpty(b) || a.Lo <= b.Lo && (a.Hi == "" || b.Hi != "" && b.Hi <= a.Hi)
}

// touched returns the spans that a message reads or writes.
func touched(m api.Msg) []api.Span {
	switch m.Kind {
	case api.Put, api.Del:
		return []api.Span{{Lo: m.Key, Hi: m.Key + "\x00"}}
	case api.Drop, api.Stamp:
		return []api.Span{m.Span}
	}
	return []api.Span{span.Prefix(m.From), span.Prefix(m.To)}
}

func modelValid(n api.Node, s api.Span) bool {
	if len(n.Kids) == 0 {
		return len(n.Pivots) == 0 && len(n.Sums) == 0 && len(n.Buf) == 0 && modelTable(n.Pairs, s)
	}
	ok := len(n.Pairs) == 0 && len(n.Sums) == len(n.Kids) && len(n.Pivots)+1 == len(n.Kids)
	for _, k := range n.Kids {
		ok = ok && k >= 0 && k <= 4095
	}
	for i, p := range n.Pivots {
		ok = ok && p > s.Lo && (s.Hi == "" || p < s.Hi) && (i == 0 || p > n.Pivots[i-1])
	}
	for _, x := range n.Sums {
		for _, r := range []api.Range{x.Inodes, x.Bytes} {
			ok = ok && 0 <= r.Lo && r.Lo <= r.Hi && r.Hi <= most
		}
	}
	for _, m := range n.Buf {
		ok = ok && msg.Valid(m)
		for _, part := range touched(m) {
			ok = ok && modelCovers(s, part)
		}
	}
	return ok
}

// modelTable reports whether pairs may be those of a leaf.
func modelTable(l []api.Pair, s api.Span) bool {
	for i, p := range l {
		if i > 0 && l[i-1].Key >= p.Key || !modelHas(s, p.Key) {
			return false
		}
		if len(p.Key) < 1 || len(p.Key) > 65535 || len(p.Value) > 64 || p.Stamp < 0 || p.Stamp > 1000000000 {
			return false
		}
	}
	return true
}

// class returns of what kind a text is that is alike to others of this kind, or nothing.
func class(p string) string {
	switch {
	case p == "":
		return ""
	case path.Valid(p):
		return "path"
	case p[0] == 6:
		return "link"
	case len(p) == 10 && p[0] == 5 && strings.Trim(p[1:9], "0123456789abcdef") == "" && p[1] <= '7' && p[9] == '/':
		return "body"
	}
	return ""
}

// modelSum follows the table of the chapter.
func modelSum(n api.Node) api.Sum {
	if len(n.Kids) == 0 {
		u := entry.Total(n.Pairs)
		return sum(u.Inodes, u.Inodes, u.Bytes, u.Bytes)
	}
	var s api.Sum
	cut := func() {
		for _, x := range []*int{&s.Inodes.Lo, &s.Inodes.Hi, &s.Bytes.Lo, &s.Bytes.Hi} {
			*x = min(max(*x, 0), most)
		}
	}
	for _, x := range n.Sums {
		s.Inodes.Lo += x.Inodes.Lo
		s.Inodes.Hi += x.Inodes.Hi
		s.Bytes.Lo += x.Bytes.Lo
		s.Bytes.Hi += x.Bytes.Hi
		cut()
	}
	for _, m := range n.Buf {
		modelChange(&s, m)
		cut()
	}
	return s
}

func modelChange(s *api.Sum, m api.Msg) {
	x, err := path.Place(m.Key)
	isEntry := err == api.OK && x.Tag == api.IsEntry
	alike := class(m.From) != "" && class(m.From) == class(m.To)
	switch {
	case m.Kind == api.Put && isEntry:
		s.Inodes.Hi++
	case m.Kind == api.Put:
		s.Bytes.Lo -= 64
		s.Bytes.Hi += len(m.Value)
	case m.Kind == api.Del && isEntry:
		s.Inodes.Lo--
	case m.Kind == api.Del:
		s.Bytes.Lo -= 64
	case m.Kind == api.Drop || m.Kind == api.Move && alike:
		*s = sum(0, s.Inodes.Hi, 0, s.Bytes.Hi)
	case m.Kind == api.Clone && alike:
		*s = sum(0, 2*s.Inodes.Hi, 0, 2*s.Bytes.Hi)
	case m.Kind != api.Stamp:
		*s = sum(0, most, 0, most)
	}
}

// modelBytes returns the bytes of a valid node.
func modelBytes(n api.Node) []byte {
	text := func(b []byte, s string) []byte {
		return append(binary.BigEndian.AppendUint16(b, uint16(len(s))), s...)
	}
	number := func(b []byte, n int) []byte { return binary.BigEndian.AppendUint32(b, uint32(n)) }
	if len(n.Kids) == 0 {
		b := number([]byte("L"), len(n.Pairs))
		for _, p := range n.Pairs {
			b = number(text(text(b, p.Key), p.Value), p.Stamp)
		}
		return b
	}
	b := number([]byte("N"), len(n.Kids))
	for _, k := range n.Kids {
		b = number(b, k)
	}
	for _, p := range n.Pivots {
		b = text(b, p)
	}
	for _, s := range n.Sums {
		for _, x := range []int{s.Inodes.Lo, s.Inodes.Hi, s.Bytes.Lo, s.Bytes.Hi} {
			b = binary.BigEndian.AppendUint64(b, uint64(x))
		}
	}
	b = number(b, len(n.Buf))
	for _, m := range n.Buf {
		b = append(b, msg.Bytes(m)...)
	}
	return b
}

// modelParse reads a node wherever its parts must be; where there are too few bytes, it fails by a panic.
func modelParse(b []byte) (n api.Node, ok bool) {
	defer func() {
		if recover() != nil {
			n, ok = api.Node{}, false
		}
	}()
	at := 5
	number := func() int { at += 4; return int(binary.BigEndian.Uint32(b[at-4 : at : len(b)])) }
	bound := func() int { at += 8; return int(binary.BigEndian.Uint64(b[at-8 : at : len(b)])) }
	text := func() string {
		size := int(binary.BigEndian.Uint16(b[at : at+2 : len(b)]))
		at += 2 + size
		return string(b[at-size : at : len(b)])
	}
	count := int(binary.BigEndian.Uint32(b[1:5:len(b)]))
	switch {
	case b[0] == 'L':
		for range count {
			n.Pairs = append(n.Pairs, pair(text(), text(), number()))
		}
	case b[0] == 'N' && count > 0:
		for range count {
			n.Kids = append(n.Kids, number())
		}
		for range count - 1 {
			n.Pivots = append(n.Pivots, text())
		}
		for range count {
			n.Sums = append(n.Sums, sum(bound(), bound(), bound(), bound()))
		}
		for range number() {
			m, size, err := msg.Parse(b[at:])
			if err != api.OK {
				return api.Node{}, false
			}
			n.Buf = append(n.Buf, m)
			at += size
		}
	default:
		return api.Node{}, false
	}
	if at != len(b) || !modelValid(n, api.Span{}) {
		return api.Node{}, false
	}
	return n, true
}

func same(a, b api.Node) bool {
	return slices.Equal(a.Pairs, b.Pairs) && slices.Equal(a.Pivots, b.Pivots) && slices.Equal(a.Kids, b.Kids) && slices.Equal(a.Sums, b.Sums) && slices.Equal(a.Buf, b.Buf)
}

func copyOf(n api.Node) api.Node {
	return api.Node{Pairs: slices.Clone(n.Pairs), Pivots: slices.Clone(n.Pivots), Kids: slices.Clone(n.Kids), Sums: slices.Clone(n.Sums), Buf: slices.Clone(n.Buf)}
}

// texts are keys, ends of spans and pivots. Some begin with others, and some are next to each other.
var texts = []string{"a", "a/", "a/x", "a/x\x00", "a0", "b/", "b/x", "\xff", "\xff\xff"}

// spans returns all spans between two texts, or from or to the ends of all keys; some are empty.
func spans() []api.Span {
	ends := append([]string{""}, texts...)
	var l []api.Span
	for _, lo := range ends {
		for _, hi := range ends {
			l = append(l, sp(lo, hi))
		}
	}
	return l
}

// keys are those of entries, blocks, attributes and links, of paths and bodies, and those that stand for nothing.
var keys = []string{"\x01", "\x05000000ff/\x01", "\x05000000ff/\x02\x00\x00", "\x05000000ff/\x03n", "\x06a/\x01", "\x06b/\x01", "a/", "a/\x01", "a/\x02\x00\x00", "a/\x02\xea\x61", "a/\x03n", "a/b/\x01", "a/b/\x02\x00\x01", "b", "b/\x01", "b/\x02\x00\x00", "b/b/\x03n", "junk"}

// fronts are what keys that are moved begin with, and get instead.
var fronts = []string{"a/", "b/", "b/b/", "c/", "a", "b", "a/\x02", "\x05", "\x05000000ff/", "\x0500000000/", "\x057fffffff/", "\x0580000000/", "\x05000000FF/", "\x05000000ff/a/", "\x05000000ff/\x01", "\x05000000f/", "\x05000000ff0", "\x04000000ff/", "\x06", "\x06a/", "\x06b", "\x06\x06\x01", "\x07", "a//", "../", "./", "/", "a/../", "twelveletter/", "thirteenbytes/", "\xff"}

// moves returns the valid Moves and Clones between the fronts.
func moves() []api.Msg {
	var l []api.Msg
	for _, a := range fronts {
		for _, b := range fronts {
			if !strings.HasPrefix(a, b) && !strings.HasPrefix(b, a) {
				l = append(l, move(a, b), clone(a, b))
			}
		}
	}
	return l
}

// others returns valid messages of the other kinds, for the keys and between them.
func others() []api.Msg {
	l := list(drop("", ""), stamp("", "", 9))
	for i, k := range keys {
		l = append(l, put(k, long(i*4%65), i), put(k, "", i), put(k, long(64), 1000000000), del(k))
		l = append(l, drop(k, k+"\x00"), drop(k, ""), drop("", k), stamp("", k, i), stamp(k, "", i))
	}
	return l
}

// buffers are lists of messages, some of which are not valid, and some of which lie in small spans.
func buffers() [][]api.Msg {
	odd := []api.Msg{{}, {Kind: 7, Key: "a/x"}, {Kind: api.Put}, {Kind: api.Del, Key: "a/x", N: 1}, {Kind: api.Move, From: "a/", To: "a/x"}, {Kind: api.Drop, Span: sp("b", "a")}}
	l := [][]api.Msg{nil, {del("a/x"), put("a/x", "v", 1)}, {del("a"), drop("", "")}, {put("a/x", long(64), 1000000000), put("a/x", long(65), 0)}}
	for _, m := range odd {
		l = append(l, list(m), list(del("a/x"), m))
	}
	for _, k := range texts {
		l = append(l, list(put(k, "v", 0)), list(del(k)), list(drop("a", k+"\x00")), list(stamp(k, "", 1)), list(drop(k, k+"\x00")))
	}
	for _, p := range []string{"a", "a/", "a/x", "b/", "\xff", "b/x"} {
		for _, q := range []string{"a/y", "b/", "b/x", "c", "\xfe"} {
			l = append(l, list(move(p, q)), list(clone(p, q)), list(del("a/x"), move(q, p)))
		}
	}
	return l
}

// nodes returns valid nodes of all kinds.
func nodes() []api.Node {
	l := []api.Node{{}, leaf(pair("k", "v", 258)), leaf(pair("\x00", "", 0), pair("k", long(64), 1000000000)), leaf(pair(long(65535), "v", 1)), leaf(pair("a", "b", 0x01020304), pair("b", "a", 0x01020304))}
	wide := []api.Sum{sum(0, most, 1, 2), sum(3, 3, 0, 0), sum(0x0102030405, 0x01020304050607, most, most)}
	l = append(l, inner(make([]api.Sum, 1), nil), inner(wide, []string{"b", "c"}), inner(wide, []string{"\x00", long(65535)}), inner(wide[:2], []string{long(300)}))
	l = append(l, inner(wide[1:2], nil, moves()[:9]...), inner(wide[:2], []string{"b"}, others()[:40]...), inner(wide[2:], nil, drop(long(65535), ""), del(long(65535))))
	for _, m := range append(others(), moves()...) {
		l = append(l, inner(wide[1:2], nil, m))
	}
	for i, k := range keys {
		l = append(l, leaf(pair(k, "v", i)), inner(wide[1:], []string{k}, del(k)))
	}
	l = append(l, api.Node{Kids: []int{7, 7, 7}, Pivots: []string{"x", "y"}, Sums: make([]api.Sum, 3), Buf: list(del("k"))})
	return l
}

// checkNode compares a node with the one that is wanted.
func checkNode(t *testing.T, what string, got, want api.Node) {
	t.Helper()
	if !same(got, want) {
		t.Fatalf("%s: %#v, not %#v", what, got, want)
	}
}

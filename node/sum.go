package node

import (
	"strings"

	"downspout/api"
	"downspout/entry"
	"downspout/path"
)

// most is the greatest bound.
const most = 1000000000000000

// Sum returns bounds of the use of a node.
func Sum(n api.Node) api.Sum {
	if isLeaf(n) {
		use := entry.Total(n.Pairs)
		return api.Sum{Inodes: just(use.Inodes), Bytes: just(use.Bytes)}
	}
	var s api.Sum
	for _, kid := range n.Sums {
		s.Inodes, s.Bytes = plus(s.Inodes, kid.Inodes), plus(s.Bytes, kid.Bytes)
	}
	for _, m := range n.Buf {
		change := changeBy(m)
		change(&s)
	}
	return s
}

func just(n int) api.Range { return api.Range{Lo: n, Hi: n} }

// plus adds to both ends of a range, which stay from 0 to most.
// Since no sum is greater, however many are added, none is beyond what an int can have.
func plus(r, by api.Range) api.Range {
	return api.Range{Lo: bounded(r.Lo + by.Lo), Hi: bounded(r.Hi + by.Hi)}
}

func bounded(n int) int { return min(max(n, 0), most) }

// changeBy returns how a message changes bounds.
func changeBy(m api.Msg) func(s *api.Sum) {
	switch m.Kind {
	case api.Put:
		// Hi grows even where the key may have been there already, since no one knows; Lo is lessened by all that may have been replaced.
		return changeAt(m.Key, api.Range{Hi: 1}, api.Range{Lo: -api.MaxValue, Hi: len(m.Value)})
	case api.Del:
		return changeAt(m.Key, api.Range{Lo: -1}, api.Range{Lo: -api.MaxValue})
	case api.Drop:
		return changeBoth(fewer)
	case api.Move:
		return changeBoth(whereAlike(m, fewer))
	case api.Clone:
		return changeBoth(whereAlike(m, twice))
	}
	return func(s *api.Sum) {}
}

// changeAt returns the change by a message for one key: if it stands for an entry, that of inodes, otherwise that of bytes.
func changeAt(k string, inodes, bytes api.Range) func(s *api.Sum) {
	if x, err := path.Place(k); err == api.OK && x.Tag == api.IsEntry {
		return func(s *api.Sum) { s.Inodes = plus(s.Inodes, inodes) }
	}
	return func(s *api.Sum) { s.Bytes = plus(s.Bytes, bytes) }
}

// changeBoth returns the change that does the same to inodes and to bytes.
func changeBoth(change func(r api.Range) api.Range) func(s *api.Sum) {
	return func(s *api.Sum) { s.Inodes, s.Bytes = change(s.Inodes), change(s.Bytes) }
}

// whereAlike returns a change, or the one to any bounds, if keys that are moved may be charged otherwise afterwards.
func whereAlike(m api.Msg, change func(r api.Range) api.Range) func(r api.Range) api.Range {
	if alike(m.From, m.To) {
		return change
	}
	return unknown
}

func fewer(r api.Range) api.Range { return api.Range{Hi: r.Hi} }

func twice(r api.Range) api.Range { return plus(fewer(r), fewer(r)) }

func unknown(api.Range) api.Range { return api.Range{Hi: most} }

// alike reports whether keys that begin with one text are charged as they are with the other one instead.
// Neither is the root, since the texts of messages are not empty.
func alike(p, q string) bool {
	return path.Valid(p) && path.Valid(q) || isBody(p) && isBody(q) || isLink(p) && isLink(q)
}

// isBody reports whether a text is a body: what has entries is a path or a body.
func isBody(p string) bool {
	_, err := path.Key(api.Place{Path: p, Tag: api.IsEntry})
	return err == api.OK && !path.Valid(p)
}

// isLink reports whether no key that begins with a text is charged, since all are marks in the index of links, or none of any place.
func isLink(p string) bool { return strings.HasPrefix(p, "\x06") }

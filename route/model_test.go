package route_test

import (
	"slices"
	"strconv"
	"strings"
	"testing"

	"downspout/api"
	"downspout/span"
)

func sp(lo, hi string) api.Span { return api.Span{Lo: lo, Hi: hi} }

func put(k string) api.Msg { return api.Msg{Kind: api.Put, Key: k, Value: "new", N: 7} }

func del(k string) api.Msg { return api.Msg{Kind: api.Del, Key: k} }

func drop(lo, hi string) api.Msg { return api.Msg{Kind: api.Drop, Span: sp(lo, hi)} }

func move(from, to string) api.Msg { return api.Msg{Kind: api.Move, From: from, To: to} }

func clone(from, to string) api.Msg { return api.Msg{Kind: api.Clone, From: from, To: to} }

func stamp(lo, hi string) api.Msg { return api.Msg{Kind: api.Stamp, Span: sp(lo, hi), N: 9} }

func list(l ...api.Msg) []api.Msg { return l }

func has(s api.Span, k string) bool { return k >= s.Lo && (s.Hi == "" || k < s.Hi) }

func listHas(l []api.Span, k string) bool {
	return slices.ContainsFunc(l, func(s api.Span) bool { return has(s, k) })
}

// kidHas reports whether a kid has a key.
func kidHas(i int, pivots []string, k string) bool {
	return (i == 0 || k >= pivots[i-1]) && (i == len(pivots) || k < pivots[i])
}

// modelSpans returns what a message reads and writes, by the table of chapter 5.
func modelSpans(m api.Msg) (reads, writes []api.Span) {
	from, to := span.Prefix(m.From), span.Prefix(m.To)
	switch m.Kind {
	case api.Put, api.Del:
		return nil, []api.Span{sp(m.Key, m.Key+"\x00")}
	case api.Drop:
		return nil, []api.Span{m.Span}
	case api.Move:
		return []api.Span{from}, []api.Span{from, to}
	case api.Clone:
		return []api.Span{from}, []api.Span{to}
	}
	return []api.Span{m.Span}, []api.Span{m.Span}
}

// isMove reports whether a message is a Move or a Clone.
func isMove(m api.Msg) bool { return m.Kind == api.Move || m.Kind == api.Clone }

// isWide reports whether a message is a Drop or a Stamp.
func isWide(m api.Msg) bool { return m.Kind == api.Drop || m.Kind == api.Stamp }

// witnesses returns all keys where a span of the messages, or one of more spans, may begin or end, in order.
// Two of these spans meet exactly if both have some witness.
func witnesses(l []api.Msg, pivots []string, more ...api.Span) []string {
	keys := append([]string{""}, pivots...)
	for _, m := range l {
		reads, writes := modelSpans(m)
		more = slices.Concat(more, reads, writes)
	}
	for _, s := range more {
		keys = append(keys, s.Lo, s.Hi)
	}
	slices.Sort(keys)
	return slices.Compact(keys)
}

// some returns the keys for which a condition holds.
func some(keys []string, holds func(k string) bool) []string {
	return slices.DeleteFunc(slices.Clone(keys), func(k string) bool { return !holds(k) })
}

// runs returns the normal list of the keys for which a condition holds, given all keys where that may change.
func runs(keys []string, holds func(k string) bool) []api.Span {
	var l []api.Span
	before := false
	for _, k := range keys {
		now := holds(k)
		if now && !before {
			l = append(l, sp(k, ""))
		}
		if before && !now {
			l[len(l)-1].Hi = k
		}
		before = now
	}
	return l
}

// narrowed returns a message once for each of some spans, with that span instead of its own.
func narrowed(m api.Msg, spans []api.Span) []api.Msg {
	var l []api.Msg
	for _, s := range spans {
		m.Span = s
		l = append(l, m)
	}
	return l
}

// modelPart returns the part of a message for the keys for which a condition holds, and what is left of it, by the words of the chapter.
func modelPart(m api.Msg, keys []string, inside func(k string) bool) (part, left []api.Msg) {
	if isWide(m) {
		part = narrowed(m, runs(keys, func(k string) bool { return has(m.Span, k) && inside(k) }))
		left = narrowed(m, runs(keys, func(k string) bool { return has(m.Span, k) && !inside(k) }))
		return part, left
	}
	_, writes := modelSpans(m)
	if slices.ContainsFunc(keys, func(k string) bool { return listHas(writes, k) && inside(k) }) {
		return list(m), nil
	}
	return nil, list(m)
}

// modelLiesIn reports whether a message lies in the keys for which a condition holds.
func modelLiesIn(m api.Msg, keys []string, inside func(k string) bool) bool {
	reads, writes := modelSpans(m)
	outside := func(k string) bool { return (listHas(reads, k) || listHas(writes, k)) && !inside(k) }
	return !slices.ContainsFunc(keys, outside)
}

// modelCrosses reports whether a message is a Move or Clone that lies in the span of no kid.
func modelCrosses(m api.Msg, pivots []string) bool {
	keys := witnesses(list(m), pivots)
	for i := range len(pivots) + 1 {
		if modelLiesIn(m, keys, func(k string) bool { return kidHas(i, pivots, k) }) {
			return false
		}
	}
	return isMove(m)
}

// modelReady goes through a buffer by the words of the chapter, with the single keys that are blocked.
func modelReady(buf []api.Msg, pivots []string, i int) (goes, stay []api.Msg) {
	keys := witnesses(buf, pivots)
	inside := func(k string) bool { return kidHas(i, pivots, k) }
	blocked := map[string]bool{}
	for _, m := range buf {
		part, left := modelPart(m, keys, inside)
		reads, writes := modelSpans(m)
		needs := some(keys, func(k string) bool { return listHas(reads, k) || listHas(writes, k) })
		if isMove(m) && !modelLiesIn(m, keys, inside) {
			part = nil
		}
		if !isMove(m) {
			needs = some(needs, inside)
		}
		if len(part) == 0 || slices.ContainsFunc(needs, func(k string) bool { return blocked[k] }) {
			stay = append(stay, m)
			for _, k := range needs {
				blocked[k] = true
			}
			continue
		}
		goes = append(goes, part...)
		if isWide(m) {
			stay = append(stay, left...)
		}
	}
	return goes, stay
}

// small are texts of which all lists of some messages are looked at.
var small = []string{"a/", "a/x", "b/"}

// texts are keys of tables, and ends and prefixes of messages. Some begin with others, and some are next to each other.
var texts = []string{"a", "a/", "a/x", "a/x\x00", "a0", "b/", "b/x", "\xff"}

// borders are the keys of which pivots are made: at the ends of what messages read and write, inside, and outside.
var borders = []string{"a/", "a/x", "a/x\x00", "a0", "b/m", "c"}

// pivotLists returns all pivots with some of the borders.
func pivotLists() [][]string {
	var all [][]string
	for set := range 1 << len(borders) {
		var pivots []string
		for i, k := range borders {
			if set>>i&1 == 1 {
				pivots = append(pivots, k)
			}
		}
		all = append(all, pivots)
	}
	return all
}

// spans returns all spans that are not empty, and whose ends are among some texts.
func spans(texts []string) []api.Span {
	var l []api.Span
	ends := append([]string{""}, texts...)
	for _, lo := range ends {
		for _, hi := range ends {
			if hi == "" || lo < hi {
				l = append(l, sp(lo, hi))
			}
		}
	}
	return l
}

// messages returns valid messages of all kinds with keys and ends among some texts.
func messages(texts []string) []api.Msg {
	var l []api.Msg
	for _, a := range texts {
		l = append(l, put(a), del(a))
		for _, b := range texts {
			if !strings.HasPrefix(a, b) && !strings.HasPrefix(b, a) {
				l = append(l, move(a, b), clone(a, b))
			}
		}
	}
	for _, s := range spans(texts) {
		l = append(l, drop(s.Lo, s.Hi), stamp(s.Lo, s.Hi))
	}
	return l
}

// tables returns all tables with some of the texts as keys.
func tables() [][]api.Pair {
	var all [][]api.Pair
	for set := range 1 << len(texts) {
		var t []api.Pair
		for i, k := range texts {
			if set>>i&1 == 1 {
				t = append(t, api.Pair{Key: k, Value: "v" + strconv.Itoa(i), Stamp: 100 + i})
			}
		}
		all = append(all, t)
	}
	return all
}

// checkList compares messages with those that are wanted.
func checkList(t *testing.T, what string, got, want []api.Msg) {
	t.Helper()
	if !slices.Equal(got, want) {
		t.Fatalf("%s: %#v, not %#v", what, got, want)
	}
}

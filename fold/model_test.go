package fold_test

import (
	"slices"
	"strconv"
	"strings"
	"testing"

	"downspout/api"
	"downspout/span"
)

func pair(k, v string, n int) api.Pair { return api.Pair{Key: k, Value: v, Stamp: n} }

func sp(lo, hi string) api.Span { return api.Span{Lo: lo, Hi: hi} }

func put(k, v string) api.Msg { return api.Msg{Kind: api.Put, Key: k, Value: v} }

func del(k string) api.Msg { return api.Msg{Kind: api.Del, Key: k} }

func drop(s api.Span) api.Msg { return api.Msg{Kind: api.Drop, Span: s} }

func move(from, to string) api.Msg { return api.Msg{Kind: api.Move, From: from, To: to} }

func clone(from, to string) api.Msg { return api.Msg{Kind: api.Clone, From: from, To: to} }

func stamp(s api.Span, n int) api.Msg { return api.Msg{Kind: api.Stamp, Span: s, N: n} }

func has(s api.Span, k string) bool { return k >= s.Lo && (s.Hi == "" || k < s.Hi) }

func listHas(l []api.Span, k string) bool {
	return slices.ContainsFunc(l, func(s api.Span) bool { return has(s, k) })
}

// modelSpans returns what a message reads, writes and kills, by the table of chapter 5.
func modelSpans(x api.Msg) (reads, writes, kills []api.Span) {
	from, to := span.Prefix(x.From), span.Prefix(x.To)
	switch x.Kind {
	case api.Put, api.Del:
		one := []api.Span{{Lo: x.Key, Hi: x.Key + "\x00"}}
		return nil, one, one
	case api.Drop:
		return nil, []api.Span{x.Span}, []api.Span{x.Span}
	case api.Move:
		return []api.Span{from}, []api.Span{from, to}, []api.Span{from, to}
	case api.Clone:
		return []api.Span{from}, []api.Span{to}, []api.Span{to}
	}
	return []api.Span{x.Span}, []api.Span{x.Span}, nil
}

// above is a key that is greater than all ends of spans in the tests.
const above = "\xff\xff\xff\xff"

// witnesses returns all keys where a span of the messages or of the dead spans may begin or end, and one above them, in order.
// Between two of them, all keys are dead or none is.
func witnesses(l []api.Msg, dead []api.Span) []string {
	keys := []string{"", above}
	ends := slices.Clone(dead)
	for _, m := range l {
		reads, writes, _ := modelSpans(m)
		ends = slices.Concat(ends, reads, writes)
	}
	for _, s := range ends {
		keys = append(keys, s.Lo, s.Hi)
	}
	slices.Sort(keys)
	return slices.Compact(keys)
}

// modelLive folds a list by the words of the chapter, key by key.
func modelLive(l []api.Msg, spans []api.Span) ([]api.Msg, []api.Span) {
	keys := witnesses(l, spans)
	dead := map[string]bool{}
	for _, k := range keys {
		dead[k] = listHas(spans, k)
	}
	var stay []api.Msg
	for i := len(l) - 1; i >= 0; i-- {
		reads, writes, kills := modelSpans(l[i])
		stays := slices.ContainsFunc(keys, func(k string) bool { return listHas(writes, k) && !dead[k] })
		if !stays {
			continue
		}
		stay = append([]api.Msg{l[i]}, stay...)
		for _, k := range keys {
			dead[k] = (dead[k] || listHas(kills, k)) && !listHas(reads, k)
		}
	}
	return stay, modelNorm(keys, dead)
}

// modelNorm returns the normal list of the dead keys, given all keys where they may begin or end.
func modelNorm(keys []string, dead map[string]bool) []api.Span {
	var l []api.Span
	for i, k := range keys {
		before := i > 0 && dead[keys[i-1]]
		if dead[k] && !before {
			l = append(l, sp(k, ""))
		}
		if !dead[k] && before {
			l[len(l)-1].Hi = k
		}
	}
	return l
}

// texts are keys of tables, and ends and prefixes of messages. Some begin with others, and some are next to each other.
var texts = []string{"a", "a/", "a/x", "a/x\x00", "a0", "b/", "b/x", "\xff"}

// tables returns all tables with some of the texts as keys.
func tables() [][]api.Pair {
	var all [][]api.Pair
	for set := range 1 << len(texts) {
		var t []api.Pair
		for i, k := range texts {
			if set>>i&1 == 1 {
				t = append(t, pair(k, "v"+strconv.Itoa(i), 100+i))
			}
		}
		all = append(all, t)
	}
	return all
}

// spans returns all spans that are not empty, and whose ends are among some texts.
func spans(texts []string) []api.Span {
	var l []api.Span
	ends := append([]string{""}, texts...)
	for _, lo := range ends {
		for _, hi := range ends {
			if hi == "" || lo < hi {
				l = append(l, sp(lo, hi))
			}
		}
	}
	return l
}

// messages returns valid messages of all kinds with keys and ends among some texts.
func messages(texts []string) []api.Msg {
	var l []api.Msg
	for _, a := range texts {
		l = append(l, put(a, "new"), del(a))
		for _, b := range texts {
			if !strings.HasPrefix(a, b) && !strings.HasPrefix(b, a) {
				l = append(l, move(a, b), clone(a, b))
			}
		}
	}
	for _, s := range spans(texts) {
		l = append(l, drop(s), stamp(s, 9))
	}
	return l
}

// small returns texts of which all lists of some messages are looked at.
var small = []string{"a/", "a/x", "b/"}

// where returns the pairs of a table in the spans, or those outside of them.
func where(t []api.Pair, l []api.Span, inside bool) []api.Pair {
	var some []api.Pair
	for _, p := range t {
		if listHas(l, p.Key) == inside {
			some = append(some, p)
		}
	}
	return some
}

// mix returns a table with the pairs of t outside of the spans, and with those of another table, with another value, in them.
func mix(t, other []api.Pair, l []api.Span) []api.Pair {
	mixed := where(t, l, false)
	for _, p := range where(other, l, true) {
		mixed = append(mixed, pair(p.Key, "other", 0))
	}
	slices.SortFunc(mixed, func(a, b api.Pair) int { return strings.Compare(a.Key, b.Key) })
	return mixed
}

// checkTable compares a table with the one that is wanted.
func checkTable(t *testing.T, what string, l []api.Msg, got, want []api.Pair) {
	t.Helper()
	if !slices.Equal(got, want) {
		t.Fatalf("%s: %#v: %#v, not %#v", what, l, got, want)
	}
}

// checkList compares messages with those that are wanted.
func checkList(t *testing.T, what string, l, got, want []api.Msg) {
	t.Helper()
	if !slices.Equal(got, want) {
		t.Fatalf("%s of %#v: %#v, not %#v", what, l, got, want)
	}
}

package trace_test

import (
	"slices"
	"strconv"
	"strings"
	"testing"

	"downspout/api"
	"downspout/msg"
	"downspout/span"
	"downspout/table"
)

func pair(k, v string, n int) api.Pair { return api.Pair{Key: k, Value: v, Stamp: n} }

func sp(lo, hi string) api.Span { return api.Span{Lo: lo, Hi: hi} }

func put(k, v string, n int) api.Msg { return api.Msg{Kind: api.Put, Key: k, Value: v, N: n} }

func del(k string) api.Msg { return api.Msg{Kind: api.Del, Key: k} }

func drop(s api.Span) api.Msg { return api.Msg{Kind: api.Drop, Span: s} }

func move(from, to string) api.Msg { return api.Msg{Kind: api.Move, From: from, To: to} }

func clone(from, to string) api.Msg { return api.Msg{Kind: api.Clone, From: from, To: to} }

func stamp(s api.Span, n int) api.Msg { return api.Msg{Kind: api.Stamp, Span: s, N: n} }

// comesFrom returns what is found of a key that comes from another one.
func comesFrom(k, from string) api.Found { return api.Found{Pair: api.Pair{Key: k}, Key: from} }

// stampedFrom returns what is found of a key that comes from another one, and has a stamp.
func stampedFrom(k, from string, n int) api.Found {
	return api.Found{Pair: api.Pair{Key: k}, Key: from, Stamped: true, Stamp: n}
}

// isPair returns what is found of a key of which there is a pair.
func isPair(k, v string, n int) api.Found {
	return api.Found{Known: true, Has: true, Pair: pair(k, v, n)}
}

// gone is what is found of a key of which there is no pair.
var gone = api.Found{Known: true}

func has(s api.Span, k string) bool { return k >= s.Lo && (s.Hi == "" || k < s.Hi) }

func listHas(l []api.Span, k string) bool {
	return slices.ContainsFunc(l, func(s api.Span) bool { return has(s, k) })
}

// sorted returns texts in order, each one once.
func sorted(l []string) []string {
	slices.Sort(l)
	return slices.Compact(l)
}

// renamed returns a text with from in the place of to, if it begins with that.
func renamed(s string, m api.Msg) (string, bool) {
	rest, ok := strings.CutPrefix(s, m.To)
	return m.From + rest, ok && (m.Kind == api.Move || m.Kind == api.Clone)
}

// origins returns all keys from which a key may come, if a rename may have been undone or not.
func origins(k string, l []api.Msg) []string {
	keys := []string{k}
	for _, m := range slices.Backward(l) {
		for _, k := range keys {
			if old, ok := renamed(k, m); ok {
				keys = append(keys, old)
			}
		}
	}
	return sorted(keys)
}

// unstamped is the stamp of pairs of the model before all messages.
const unstamped = -1

// modelKey finds a key by the effect of the messages on a table in which the values of all pairs tell their keys.
func modelKey(k string, l []api.Msg) api.Found {
	from := origins(k, l)
	var t []api.Pair
	for i, o := range from {
		t = append(t, pair(o, "key "+strconv.Itoa(i), unstamped))
	}
	p, found := table.Find(msg.All(t, l), k)
	if !found {
		return gone
	}
	mark, ok := strings.CutPrefix(p.Value, "key ")
	if !ok {
		return isPair(k, p.Value, p.Stamp)
	}
	i, _ := strconv.Atoi(mark)
	if p.Stamp == unstamped {
		return comesFrom(k, from[i])
	}
	return stampedFrom(k, from[i], p.Stamp)
}

// modelNeeds reports whether a key in a span comes from k, by the effect of the messages on the pair of k alone.
func modelNeeds(s api.Span, l []api.Msg, k string) bool {
	after := msg.All([]api.Pair{pair(k, "marked", unstamped)}, l)
	return slices.ContainsFunc(after, func(p api.Pair) bool { return p.Value == "marked" && has(s, p.Key) })
}

// ends returns where a span of a message begins and ends.
func ends(m api.Msg) []string {
	switch m.Kind {
	case api.Put, api.Del:
		return []string{m.Key, m.Key + "\x00"}
	case api.Move, api.Clone:
		return []string{m.From, span.Prefix(m.From).Hi, m.To, span.Prefix(m.To).Hi}
	}
	return []string{m.Span.Lo, m.Span.Hi}
}

// borders returns all keys where the keys from which those of a span come may begin or end, in order.
// Of the keys from one to the next, all are such, or none is.
func borders(s api.Span, l []api.Msg) []string {
	keys := []string{"", s.Lo, s.Hi}
	for _, m := range slices.Backward(l) {
		for _, k := range keys {
			if old, ok := renamed(k, m); ok {
				keys = append(keys, old)
			}
		}
		keys = sorted(append(keys, ends(m)...))
	}
	return sorted(keys)
}

// modelSpans returns the normal list of the keys from which those of a span come, border by border.
func modelSpans(s api.Span, l []api.Msg) []api.Span {
	var needs []api.Span
	before := false
	for _, k := range borders(s, l) {
		now := modelNeeds(s, l, k)
		if now && !before {
			needs = append(needs, sp(k, ""))
		}
		if before && !now {
			needs[len(needs)-1].Hi = k
		}
		before = now
	}
	return needs
}

// small are texts of which all lists of some messages are looked at.
var small = []string{"a/", "a/x", "b/"}

// texts are keys, and ends and prefixes of messages. Some begin with others, and some are next to each other.
var texts = []string{"a", "a/", "a/x", "a/x\x00", "a0", "b/", "b/x", "\xff", "\xff\xffx"}

// keys are keys that are followed.
var keys = []string{"", "a", "a/", "a/x", "a/x\x00", "a/x/y", "a/y", "a0", "b/", "b/x", "b/x/y", "b0", "\xff", "\xff\xffx", "\xff\xffxy"}

// spans returns all spans that are not empty, and whose ends are among some texts.
func spans(texts []string) []api.Span {
	var l []api.Span
	ends := append([]string{""}, texts...)
	for _, lo := range ends {
		for _, hi := range ends {
			if hi == "" || lo < hi {
				l = append(l, sp(lo, hi))
			}
		}
	}
	return l
}

// messages returns valid messages of all kinds with keys and ends among some texts.
func messages(texts []string) []api.Msg {
	var l []api.Msg
	for i, a := range texts {
		l = append(l, put(a, "new", i), del(a))
		for _, b := range texts {
			if !strings.HasPrefix(a, b) && !strings.HasPrefix(b, a) {
				l = append(l, move(a, b), clone(a, b))
			}
		}
	}
	for i, s := range spans(texts) {
		l = append(l, drop(s), stamp(s, 100+i))
	}
	return l
}

// where returns the pairs of a table that are in some spans.
func where(t []api.Pair, l ...api.Span) []api.Pair {
	var some []api.Pair
	for _, p := range t {
		if listHas(l, p.Key) {
			some = append(some, p)
		}
	}
	return some
}

// checkFound compares what is found of a key with what is wanted.
func checkFound(t *testing.T, k string, l []api.Msg, got, want api.Found) {
	t.Helper()
	if got != want {
		t.Fatalf("Key(%q, %#v): %#v, not %#v", k, l, got, want)
	}
}

// checkSpans compares the spans on which a span depends with those that are wanted.
func checkSpans(t *testing.T, s api.Span, l []api.Msg, got, want []api.Span) {
	t.Helper()
	if !slices.Equal(got, want) {
		t.Fatalf("Spans(%q, %#v): %q, not %q", s, l, got, want)
	}
}

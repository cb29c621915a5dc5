package msg_test

import (
	"slices"
	"strconv"
	"strings"
	"testing"

	"downspout/api"
	"downspout/msg"
	"downspout/span"
)

func pair(k, v string, n int) api.Pair { return api.Pair{Key: k, Value: v, Stamp: n} }

func put(k, v string, n int) api.Msg { return api.Msg{Kind: api.Put, Key: k, Value: v, N: n} }

func del(k string) api.Msg { return api.Msg{Kind: api.Del, Key: k} }

func drop(lo, hi string) api.Msg {
	return api.Msg{Kind: api.Drop, Span: api.Span{Lo: lo, Hi: hi}}
}

func move(from, to string) api.Msg { return api.Msg{Kind: api.Move, From: from, To: to} }

func clone(from, to string) api.Msg { return api.Msg{Kind: api.Clone, From: from, To: to} }

func stamp(lo, hi string, n int) api.Msg {
	return api.Msg{Kind: api.Stamp, Span: api.Span{Lo: lo, Hi: hi}, N: n}
}

// The model has the pairs of a table in a map from their keys. A message looks at all of them, one by one.
type model map[string]api.Pair

func modelOf(t []api.Pair) model {
	m := model{}
	for _, p := range t {
		m[p.Key] = p
	}
	return m
}

// list returns the pairs in the order of their keys.
func (m model) list() []api.Pair {
	var l []api.Pair
	for _, p := range m {
		l = append(l, p)
	}
	slices.SortFunc(l, func(a, b api.Pair) int { return strings.Compare(a.Key, b.Key) })
	return l
}

func modelHas(s api.Span, k string) bool { return k >= s.Lo && (s.Hi == "" || k < s.Hi) }

func listHas(l []api.Span, k string) bool {
	return slices.ContainsFunc(l, func(s api.Span) bool { return modelHas(s, k) })
}

// after returns what a message makes of a table, by the words of the chapter.
func (m model) after(x api.Msg) model {
	next := model{}
	for k, p := range m {
		to := strings.HasPrefix(k, x.To)
		from := strings.HasPrefix(k, x.From)
		switch {
		case (x.Kind == api.Put || x.Kind == api.Del) && k == x.Key:
		case x.Kind == api.Drop && modelHas(x.Span, k):
		case x.Kind == api.Stamp && modelHas(x.Span, k):
			next[k] = pair(k, p.Value, x.N)
		case (x.Kind == api.Move || x.Kind == api.Clone) && to:
		case (x.Kind == api.Move || x.Kind == api.Clone) && from:
			moved := x.To + k[len(x.From):]
			next[moved] = pair(moved, p.Value, p.Stamp)
			if x.Kind == api.Clone {
				next[k] = p
			}
		default:
			next[k] = p
		}
	}
	if x.Kind == api.Put {
		next[x.Key] = pair(x.Key, x.Value, x.N)
	}
	return next
}

// modelSpans returns what a message reads, writes and kills, by the table of the chapter.
func modelSpans(x api.Msg) (reads, writes, kills []api.Span) {
	from, to := span.Prefix(x.From), span.Prefix(x.To)
	switch x.Kind {
	case api.Put, api.Del:
		one := []api.Span{{Lo: x.Key, Hi: x.Key + "\x00"}}
		return nil, one, one
	case api.Drop:
		return nil, []api.Span{x.Span}, []api.Span{x.Span}
	case api.Move:
		return []api.Span{from}, []api.Span{from, to}, []api.Span{from, to}
	case api.Clone:
		return []api.Span{from}, []api.Span{to}, []api.Span{to}
	}
	return []api.Span{x.Span}, []api.Span{x.Span}, nil
}

// modelFree reports whether two messages are free: no key that one of them writes is one that the other one reads or writes.
// Spans that meet have the Lo of one of them in common, so that only these keys are looked at.
func modelFree(x, y api.Msg) bool {
	for _, pairOf := range [][2]api.Msg{{x, y}, {y, x}} {
		_, writes, _ := modelSpans(pairOf[0])
		reads, others, _ := modelSpans(pairOf[1])
		others = slices.Concat(reads, others)
		for _, s := range slices.Concat(writes, others) {
			if listHas(writes, s.Lo) && listHas(others, s.Lo) {
				return false
			}
		}
	}
	return true
}

// keys are in order; some begin with others, and some are next to each other.
var keys = []string{"", "a", "a/", "a/x", "a/x\x00", "a0", "b/x", "\xff\xff"}

// tables returns all tables with some of the keys.
func tables() [][]api.Pair {
	var all [][]api.Pair
	for set := range 1 << len(keys) {
		var t []api.Pair
		for i, k := range keys {
			if set>>i&1 == 1 {
				t = append(t, pair(k, "v"+strconv.Itoa(i), 100+i))
			}
		}
		all = append(all, t)
	}
	return all
}

// full returns the table with all keys.
func full() []api.Pair {
	all := tables()
	return all[len(all)-1]
}

// messages returns all valid messages whose keys and ends are among some texts.
func messages(texts []string) []api.Msg {
	var l []api.Msg
	for _, a := range texts {
		if a != "" {
			l = append(l, put(a, "", 0), put(a, "new", 7), del(a))
		}
		for _, b := range texts {
			if b == "" || a < b {
				l = append(l, drop(a, b), stamp(a, b, 0), stamp(a, b, 9))
			}
			if a != "" && b != "" && !strings.HasPrefix(a, b) && !strings.HasPrefix(b, a) {
				l = append(l, move(a, b), clone(a, b))
			}
		}
	}
	return l
}

// many has texts that are keys of the tables, and others between, below and above them.
var many = []string{"", "\x00", "a", "a/", "a/x", "a/x\x00", "a/y", "a0", "b", "b/", "c", "\xff", "\xff\xff", "\xff\xff\xff"}

// few are enough for pairs of messages.
var few = []string{"", "a", "a/", "a/x", "a0", "b/", "\xff"}

// check compares a result with the table that is wanted.
func check(t *testing.T, call string, got, want []api.Pair) {
	t.Helper()
	if !slices.Equal(got, want) {
		t.Fatalf("%s: %#v, not %#v", call, got, want)
	}
}

// checkSpans compares a list of spans with the one that is wanted.
func checkSpans(t *testing.T, call string, m api.Msg, got, want []api.Span) {
	t.Helper()
	if !slices.Equal(got, want) {
		t.Fatalf("%s of %#v: %q, not %q", call, m, got, want)
	}
}

// both applies messages one after the other.
func both(t []api.Pair, l ...api.Msg) []api.Pair { return msg.All(t, l) }

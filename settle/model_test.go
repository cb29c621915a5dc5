package settle_test

import (
	"slices"
	"strconv"
	"strings"
	"testing"

	"downspout/api"
	"downspout/span"
)

func sp(lo, hi string) api.Span { return api.Span{Lo: lo, Hi: hi} }

func put(k, v string, n int) api.Msg { return api.Msg{Kind: api.Put, Key: k, Value: v, N: n} }

func del(k string) api.Msg { return api.Msg{Kind: api.Del, Key: k} }

func drop(lo, hi string) api.Msg { return api.Msg{Kind: api.Drop, Span: sp(lo, hi)} }

func move(from, to string) api.Msg { return api.Msg{Kind: api.Move, From: from, To: to} }

func clone(from, to string) api.Msg { return api.Msg{Kind: api.Clone, From: from, To: to} }

func stamp(lo, hi string, n int) api.Msg { return api.Msg{Kind: api.Stamp, Span: sp(lo, hi), N: n} }

func pair(k, v string, n int) api.Pair { return api.Pair{Key: k, Value: v, Stamp: n} }

func list(l ...api.Msg) []api.Msg { return l }

// isMove reports whether a message is a Move or a Clone.
func isMove(m api.Msg) bool { return m.Kind == api.Move || m.Kind == api.Clone }

// below returns the Drop of the keys that begin with a text.
func below(p string) api.Msg { return api.Msg{Kind: api.Drop, Span: span.Prefix(p)} }

// modelSettled returns the settled messages of a message, by the words of the chapter.
func modelSettled(m api.Msg, source []api.Pair) []api.Msg {
	if !isMove(m) {
		return list(m)
	}
	l := list(below(m.To))
	for _, p := range source {
		l = append(l, put(m.To+p.Key[len(m.From):], p.Value, p.Stamp))
	}
	if m.Kind == api.Move {
		l = append(l, below(m.From))
	}
	return l
}

// sourceOf returns the pairs of a table that are the source of a message: those that begin with From.
func sourceOf(m api.Msg, t []api.Pair) []api.Pair {
	return slices.DeleteFunc(slices.Clone(t), func(p api.Pair) bool { return !strings.HasPrefix(p.Key, m.From) })
}

// texts are keys of tables, and ends and prefixes of messages. Some begin with others, and some are next to each other.
var texts = []string{"a", "a/", "a/x", "a/x\x00", "a0", "b/", "b/x", "\xff", "\xff\xff"}

// borders are the keys of which pivots are made: at the ends of what messages read and write, inside, and outside.
var borders = []string{"a/", "a/x", "a/x\x00", "a0", "b/m", "c", "\xff\xff"}

// pivotLists returns all pivots with some of the borders.
func pivotLists() [][]string {
	var all [][]string
	for set := range 1 << len(borders) {
		var pivots []string
		for i, k := range borders {
			if set>>i&1 == 1 {
				pivots = append(pivots, k)
			}
		}
		all = append(all, pivots)
	}
	return all
}

// moves returns the valid Moves and Clones with prefixes among the texts.
func moves() []api.Msg {
	var l []api.Msg
	for _, a := range texts {
		for _, b := range texts {
			if !strings.HasPrefix(a, b) && !strings.HasPrefix(b, a) {
				l = append(l, move(a, b), clone(a, b))
			}
		}
	}
	return l
}

// others returns valid messages of the other kinds with keys and ends among the texts.
func others() []api.Msg {
	l := list(drop("", ""), stamp("", "", 9))
	for i, a := range texts {
		l = append(l, put(a, "new", i), del(a), drop("", a), drop(a, ""), stamp("", a, i), stamp(a, "", i))
		for _, b := range texts[i+1:] {
			l = append(l, drop(a, b), stamp(a, b, i))
		}
	}
	return l
}

// tables returns all tables with some of the texts as keys.
func tables() [][]api.Pair {
	var all [][]api.Pair
	for set := range 1 << len(texts) {
		var t []api.Pair
		for i, k := range texts {
			if set>>i&1 == 1 {
				t = append(t, pair(k, "v"+strconv.Itoa(i), 100+i))
			}
		}
		all = append(all, t)
	}
	return all
}

// checkList compares messages with those that are wanted.
func checkList(t *testing.T, what string, got, want []api.Msg) {
	t.Helper()
	if !slices.Equal(got, want) {
		t.Fatalf("%s: %#v, not %#v", what, got, want)
	}
}

// checkTable compares pairs with those that are wanted.
func checkTable(t *testing.T, what string, got, want []api.Pair) {
	t.Helper()
	if !slices.Equal(got, want) {
		t.Fatalf("%s: %#v, not %#v", what, got, want)
	}
}

package table_test

import (
	"slices"
	"strconv"
	"strings"
	"testing"

	"downspout/api"
	"downspout/table"
)

// The model has the pairs of a table in a map from their keys; it looks at all of them, one by one, and sorts them in the end.
type model map[string]api.Pair

// modelOf returns the model of a list whose keys are different.
func modelOf(t []api.Pair) model {
	m := model{}
	for _, p := range t {
		m[p.Key] = p
	}
	return m
}

// which returns the pairs for whose keys a condition holds.
func (m model) which(holds func(k string) bool) model {
	some := model{}
	for k, p := range m {
		if holds(k) {
			some[k] = p
		}
	}
	return some
}

// with returns the pairs of m and p, which replaces the one with the same key.
func (m model) with(p api.Pair) model {
	all := m.which(func(k string) bool { return k != p.Key })
	all[p.Key] = p
	return all
}

// list returns the pairs in the order of their keys.
func (m model) list() []api.Pair {
	var l []api.Pair
	for _, p := range m {
		l = append(l, p)
	}
	slices.SortFunc(l, func(a, b api.Pair) int {
		if modelLess(a.Key, b.Key) {
			return -1
		}
		return 1
	})
	return l
}

// modelLess compares byte by byte; a key comes after its beginnings.
func modelLess(a, b string) bool {
	for i := range len(b) {
		if i == len(a) || a[i] != b[i] {
			return i == len(a) || a[i] < b[i]
		}
	}
	return false
}

// modelValid reports whether each key is less than all that follow.
func modelValid(t []api.Pair) bool {
	for i, p := range t {
		for _, q := range t[i+1:] {
			if !modelLess(p.Key, q.Key) {
				return false
			}
		}
	}
	return true
}

func modelHas(s api.Span, k string) bool {
	return !modelLess(k, s.Lo) && (s.Hi == "" || modelLess(k, s.Hi))
}

func modelMoved(m model, from, to string) model {
	moved := model{}
	for k, p := range m {
		if len(k) >= len(from) && k[:len(from)] == from {
			p.Key = to + k[len(from):]
			moved[p.Key] = p
		}
	}
	return moved
}

// keys are in order; some begin with others, and some are next to each other.
var keys = []string{"", "\x00", "a", "a\x00", "a/", "a/b", "a0", "b", "\xff", "\xff\x00", "\xff\xff"}

// more are keys that no table of the tests has, between, below and above the others.
var more = []string{"\x00\x00", "A", "a.", "a/a", "a/b\x00", "a/c", "a\xff", "c", "\xfe", "\xff\xff\xff"}

// tables returns all tables with some of n keys. The values tell who made them.
func tables(n int, who string) [][]api.Pair {
	var all [][]api.Pair
	for set := range 1 << n {
		var t []api.Pair
		for i, k := range keys[:n] {
			if set>>i&1 == 1 {
				t = append(t, api.Pair{Key: k, Value: who + strconv.Itoa(i), Stamp: 100 + i - len(who)})
			}
		}
		all = append(all, t)
	}
	return all
}

// large returns a table with n pairs whose keys are numbers with gaps between them.
func large(n int) []api.Pair {
	t := make([]api.Pair, n)
	for i := range t {
		t[i] = api.Pair{Key: number(2*i + 1), Value: strconv.Itoa(i), Stamp: i}
	}
	return t
}

func number(i int) string {
	s := strconv.Itoa(i)
	return strings.Repeat("0", 9-len(s)) + s
}

// check compares a result with the pairs that are wanted. P4.7: it is a table, too.
func check(t *testing.T, call string, got, want []api.Pair) {
	t.Helper()
	if !slices.Equal(got, want) {
		t.Fatalf("%s: %#v, not %#v", call, got, want)
	}
	if !modelValid(got) || !table.Valid(got) {
		t.Fatalf("%s: %#v is no table", call, got)
	}
}

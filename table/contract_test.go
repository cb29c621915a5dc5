package table_test

import (
	"slices"
	"strings"
	"testing"

	"downspout/api"
	"downspout/table"
)

// P1: all texts are accepted as keys, values and ends of spans, and all numbers as stamps.
func TestAllTexts(t *testing.T) {
	l := slices.Concat(keys, more, []string{"\xc3\xa9", "\xed\xa0\x80", "a/\x02\x01\x02"})
	for b := range 256 {
		l = append(l, string([]byte{byte(b), 'x'}))
	}
	for _, s := range []string{"\x00", "a/", "\xff"} {
		l = append(l, strings.Repeat(s, 100000))
	}
	var all []api.Pair
	for i, k := range l {
		all = table.Put(all, api.Pair{Key: k, Value: l[len(l)-1-i], Stamp: -1 << 63 >> (i % 64)})
	}
	if len(all) != len(l) || !table.Valid(all) || !modelValid(all) {
		t.Fatalf("%d pairs of %d", len(all), len(l))
	}
	for i, k := range l {
		if p, ok := table.Find(all, k); !ok || p != (api.Pair{Key: k, Value: l[len(l)-1-i], Stamp: -1 << 63 >> (i % 64)}) {
			t.Errorf("Find of the text %d: %v", i, ok)
		}
		if got := table.Moved(all, k, ""); len(got) == 0 || got[0].Key != "" || !table.Valid(got) {
			t.Errorf("Moved of the text %d: %d pairs", i, len(got))
		}
		s := api.Span{Lo: k, Hi: l[(i+7)%len(l)]}
		if in, out := table.Range(all, s), table.Drop(all, s); !slices.Equal(table.Union(out, in), all) || len(in)+len(out) != len(all) {
			t.Errorf("the span from the text %d on", i)
		}
	}
}

// P1: lists that are no tables are accepted, whatever is returned for them.
func TestNoTables(t *testing.T) {
	odd := [][]api.Pair{{pair("b", "1"), pair("a", "2")}, {pair("a", "1"), pair("a", "2")}, {pair("a", ""), pair("c", ""), pair("b", ""), pair("a", ""), pair("", "")}, slices.Repeat([]api.Pair{{}}, 9)}
	for _, l := range odd {
		if table.Valid(l) {
			t.Errorf("Valid(%#v)", l)
		}
		for _, k := range keys {
			table.Find(l, k)
			table.Put(l, pair(k, "v"))
			table.Del(l, k)
			for _, o := range keys {
				table.Range(l, api.Span{Lo: k, Hi: o})
				table.Drop(l, api.Span{Lo: k, Hi: o})
				table.Moved(l, k, o)
			}
		}
		for _, o := range append(odd, nil) {
			table.Union(l, o)
			table.Union(o, l)
		}
	}
}

// P1: tables with many pairs.
func TestManyPairs(t *testing.T) {
	const n = 300000
	l := large(n)
	for i := range n {
		if p, ok := table.Find(l, number(2*i+1)); !ok || p != l[i] {
			t.Fatalf("Find(%d): %#v, %v", i, p, ok)
		}
	}
	even, odd := make([]api.Pair, 0, n/2), make([]api.Pair, 0, n/2)
	for i, p := range l {
		if i%2 == 0 {
			even = append(even, p)
		} else {
			odd = append(odd, p)
		}
	}
	if !slices.Equal(table.Union(even, odd), l) || !slices.Equal(table.Union(odd, even), l) {
		t.Error("Union")
	}
	if got := table.Moved(table.Moved(l, "0", "x"), "x", "0"); !slices.Equal(got, l) {
		t.Error("Moved")
	}
	if got := table.Range(l, api.Span{}); !slices.Equal(got, l) || len(table.Drop(l, api.Span{})) != 0 {
		t.Error("Range")
	}
}

// results are calls with tables, and others among the arguments.
func results(a, b []api.Pair) []func() []api.Pair {
	return []func() []api.Pair{
		func() []api.Pair { return table.Range(a, api.Span{}) },
		func() []api.Pair { return table.Range(a, api.Span{Lo: "a", Hi: "b"}) },
		func() []api.Pair { return table.Drop(a, api.Span{Lo: "a", Hi: "b"}) },
		func() []api.Pair { return table.Drop(a, api.Span{Lo: "b", Hi: "a"}) },
		func() []api.Pair { return table.Put(a, pair("a", "new")) },
		func() []api.Pair { return table.Put(a, pair("a.", "new")) },
		func() []api.Pair { return table.Put(a, pair("z", "new")) },
		func() []api.Pair { return table.Del(a, "a") },
		func() []api.Pair { return table.Del(a, "z") },
		func() []api.Pair { return table.Union(a, b) },
		func() []api.Pair { return table.Union(b, a) },
		func() []api.Pair { return table.Union(a, a) },
		func() []api.Pair { return table.Union(a, nil) },
		func() []api.Pair { return table.Union(nil, a) },
		func() []api.Pair { return table.Moved(a, "a", "c") },
		func() []api.Pair { return table.Moved(a, "", "") },
		func() []api.Pair { return table.Moved(a, "a", "a") },
	}
}

// roomy returns a copy of a table that has room for more pairs behind it, and all of that room.
func roomy(l []api.Pair) ([]api.Pair, []api.Pair) {
	room := append(slices.Clone(l), slices.Repeat([]api.Pair{pair("room", "")}, 20)...)
	return room[:len(l)], room
}

// P2 and D7: results are the same again, and neither the functions nor changes of their results modify an argument, or what lies behind it.
func TestArgumentsStay(t *testing.T) {
	all := tables(8, "t")
	for i, x := range all {
		y := all[len(all)-1-i/2]
		a, roomA := roomy(x)
		b, roomB := roomy(y)
		wantA, wantB := slices.Clone(roomA), slices.Clone(roomB)
		for j, call := range results(a, b) {
			first := call()
			want := slices.Clone(first)
			for n := range first {
				first[n] = pair("changed", "changed")
			}
			_ = append(first, pair("added", "added"))
			if again := call(); !slices.Equal(again, want) {
				t.Fatalf("call %d: %#v, then %#v", j, want, again)
			}
			table.Valid(a)
			table.Find(a, "a")
			if !slices.Equal(roomA, wantA) || !slices.Equal(roomB, wantB) {
				t.Fatalf("call %d changes its arguments", j)
			}
		}
	}
}

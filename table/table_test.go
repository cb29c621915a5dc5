package table_test

import (
	"math/rand"
	"slices"
	"strings"
	"testing"

	"downspout/api"
	"downspout/table"
)

func pair(k, v string) api.Pair { return api.Pair{Key: k, Value: v} }

// P4.1: the examples of the chapter.
func TestExamples(t *testing.T) {
	a, b := []api.Pair{pair("x", "1"), pair("z", "3")}, []api.Pair{pair("y", "2"), pair("z", "4")}
	check(t, "Union of a and b", table.Union(a, b), []api.Pair{pair("x", "1"), pair("y", "2"), pair("z", "4")})
	check(t, "Union of b and a", table.Union(b, a), []api.Pair{pair("x", "1"), pair("y", "2"), pair("z", "3")})
	check(t, "Range from y on", table.Range(a, api.Span{Lo: "y"}), []api.Pair{pair("z", "3")})
	check(t, "Drop from y on", table.Drop(a, api.Span{Lo: "y"}), []api.Pair{pair("x", "1")})
	c := []api.Pair{pair("a/b", "1"), pair("a/c", "2"), pair("b", "3")}
	check(t, "Moved", table.Moved(c, "a/", "d/"), []api.Pair{pair("d/b", "1"), pair("d/c", "2")})
	check(t, "Put", table.Put(a, pair("x", "5")), []api.Pair{pair("x", "5"), pair("z", "3")})
}

// P4.1, D1: a list is a table exactly if each key is less than the next one, whatever the values and stamps are.
func TestValid(t *testing.T) {
	lists := [][]api.Pair{nil}
	for from := 0; len(lists[from]) < 4; from++ {
		for i, k := range keys[:7] {
			lists = append(lists, append(slices.Clone(lists[from]), api.Pair{Key: k, Value: "v", Stamp: 9 - i}))
		}
	}
	for _, l := range lists {
		if got := table.Valid(l); got != modelValid(l) {
			t.Fatalf("Valid(%#v): %v", l, got)
		}
	}
	for _, x := range []struct {
		first, second string
		want          bool
	}{
		{"a", "a", false}, {"b", "a", false}, {"a", "b", true}, {"a", "a\x00", true}, {"a\x00", "a", false}, {"", "", false}, {"", "\x00", true},
		{"\x7f", "\x80", true}, {"\x80", "\x7f", false}, {"z", "\xc3\xa9", true}, {"Z", "a", true}, {"10", "9", true}, {"9", "10", false},
	} {
		if got := table.Valid([]api.Pair{pair(x.first, "2"), pair(x.second, "1")}); got != x.want {
			t.Errorf("Valid of %q and %q: %v", x.first, x.second, got)
		}
	}
}

// P4.1, D1: one pair out of order is noticed wherever it is.
func TestValidEverywhere(t *testing.T) {
	l := large(300)
	if !table.Valid(l) {
		t.Error("a large table")
	}
	for i := 1; i < len(l); i++ {
		same, less := slices.Clone(l), slices.Clone(l)
		same[i].Key = l[i-1].Key
		less[i].Key = number(2*i - 2)
		if table.Valid(same) || table.Valid(less) {
			t.Errorf("Valid: a pair out of order at %d", i)
		}
	}
}

// checkKey checks what single keys do to a table.
func checkKey(t *testing.T, l []api.Pair, k string) {
	t.Helper()
	m := modelOf(l)
	want, has := m[k]
	if got, ok := table.Find(l, k); got != want || ok != has {
		t.Fatalf("Find(%#v, %#v): %#v, %v", l, k, got, ok)
	}
	p := api.Pair{Key: k, Value: "put", Stamp: 7}
	put := table.Put(l, p)
	check(t, "Put", put, m.with(p).list())
	deleted := table.Del(l, k)
	check(t, "Del", deleted, m.which(func(o string) bool { return o != k }).list())
	check(t, "Del of what was put", table.Del(put, k), deleted)
	check(t, "Put of what was deleted", table.Put(deleted, p), put)
	if got, ok := table.Find(put, k); got != p || !ok {
		t.Fatalf("Find(%#v, %#v): %#v, %v", put, k, got, ok)
	}
	if got, ok := table.Find(deleted, k); got != (api.Pair{}) || ok {
		t.Fatalf("Find(%#v, %#v): %#v, %v", deleted, k, got, ok)
	}
}

// P4.1, P4.2, D2 and D4: what was put is found, and what was deleted is not; nothing else changes.
func TestKeys(t *testing.T) {
	for _, l := range tables(len(keys), "t") {
		for _, k := range slices.Concat(keys, more) {
			checkKey(t, l, k)
		}
	}
}

// P4.2: what has zero values is found, too.
func TestZeroPair(t *testing.T) {
	l := table.Put(nil, api.Pair{})
	check(t, "Put", l, []api.Pair{{}})
	if p, ok := table.Find(l, ""); p != (api.Pair{}) || !ok {
		t.Errorf("Find: %#v, %v", p, ok)
	}
	if p, ok := table.Find(nil, ""); p != (api.Pair{}) || ok {
		t.Errorf("Find in an empty table: %#v, %v", p, ok)
	}
}

// P4.2: in tables of all lengths, each key is found, and none between them.
func TestLengths(t *testing.T) {
	for n := range 140 {
		l := large(n)
		for i := range 2*n + 2 {
			p, ok := table.Find(l, number(i))
			if i%2 == 0 && (ok || p != (api.Pair{})) || i%2 == 1 && i < 2*n && (!ok || p != l[i/2]) {
				t.Fatalf("%d pairs: Find(%d): %#v, %v", n, i, p, ok)
			}
		}
	}
}

// orders yields all orders of a list.
func orders(l []api.Pair, yield func([]api.Pair)) {
	var next func(i int)
	next = func(i int) {
		if i == len(l) {
			yield(l)
			return
		}
		for j := i; j < len(l); j++ {
			l[i], l[j] = l[j], l[i]
			next(i + 1)
			l[i], l[j] = l[j], l[i]
		}
	}
	l = slices.Clone(l)
	next(0)
}

// P4.3: pairs with different keys may be put in any order.
func TestOrder(t *testing.T) {
	all := tables(6, "t")
	want := all[len(all)-1]
	orders(want, func(l []api.Pair) {
		var got []api.Pair
		for _, p := range l {
			got = table.Put(got, p)
		}
		check(t, "Put in another order", got, want)
	})
}

// P4.3: of pairs with the same key, the last one remains.
func TestSameKey(t *testing.T) {
	orders([]api.Pair{pair("a", "1"), pair("b", "2"), pair("a", "3"), pair("a/", "4"), pair("b", "5"), {Key: "a", Value: "1", Stamp: 6}}, func(l []api.Pair) {
		var got []api.Pair
		want := model{}
		for _, p := range l {
			got = table.Put(got, p)
			want[p.Key] = p
		}
		check(t, "Put of the same keys", got, want.list())
	})
}

// P4.1, P4.4 and D3: the pairs in a span, and those that are not in it, are the table together.
func TestSpans(t *testing.T) {
	all := tables(len(keys), "t")
	for _, lo := range slices.Concat(keys, more) {
		for _, hi := range slices.Concat(keys, more) {
			s := api.Span{Lo: lo, Hi: hi}
			for i := range all {
				if i%23 == len(lo+hi) || i == len(all)-1 {
					checkSpan(t, all[i], s)
				}
			}
		}
	}
}

func checkSpan(t *testing.T, l []api.Pair, s api.Span) {
	t.Helper()
	m := modelOf(l)
	in, out := table.Range(l, s), table.Drop(l, s)
	check(t, "Range", in, m.which(func(k string) bool { return modelHas(s, k) }).list())
	check(t, "Drop", out, m.which(func(k string) bool { return !modelHas(s, k) }).list())
	check(t, "Union of Range and Drop", table.Union(in, out), l)
	check(t, "Union of Drop and Range", table.Union(out, in), l)
	if len(in)+len(out) != len(l) {
		t.Fatalf("%d and %d pairs of %d", len(in), len(out), len(l))
	}
}

// P4.4: spans of a large table.
func TestLargeSpans(t *testing.T) {
	l := large(30)
	for lo := range 62 {
		for hi := range 62 {
			checkSpan(t, l, api.Span{Lo: number(lo), Hi: number(hi)})
		}
		checkSpan(t, l, api.Span{Lo: number(lo)})
		checkSpan(t, l, api.Span{Hi: number(lo)})
	}
}

// modelUnion has all pairs of b, and those of a whose keys b does not have.
func modelUnion(a, b []api.Pair) []api.Pair {
	m := modelOf(b)
	for _, p := range a {
		if _, has := m[p.Key]; !has {
			m[p.Key] = p
		}
	}
	return m.list()
}

// P4.1, P4.5 and D5: unions of two tables; an idempotent one, and a commutative one if no keys are common.
func TestUnions(t *testing.T) {
	for _, a := range tables(7, "a") {
		check(t, "Union with itself", table.Union(a, a), a)
		check(t, "Union with nothing", table.Union(a, nil), a)
		check(t, "Union of nothing", table.Union(nil, a), a)
		for _, b := range tables(7, "other") {
			got := table.Union(a, b)
			check(t, "Union", got, modelUnion(a, b))
			check(t, "Union with a part", table.Union(got, b), got)
			if len(got) == len(a)+len(b) {
				check(t, "Union of tables without common keys", table.Union(b, a), got)
			}
		}
	}
}

// P4.5: unions are associative.
func TestThreeUnions(t *testing.T) {
	for _, a := range tables(5, "a") {
		for _, b := range tables(5, "bb") {
			ab := table.Union(a, b)
			for _, c := range tables(5, "ccc") {
				check(t, "Union of three", table.Union(ab, c), table.Union(a, table.Union(b, c)))
			}
		}
	}
}

// P4.5: unions of longer tables, one of which may end long before the other one.
func TestLongUnions(t *testing.T) {
	r := rand.New(rand.NewSource(4))
	some := func(n int, who string) []api.Pair {
		var l []api.Pair
		for i := range 200 {
			if r.Intn(200) < n {
				l = append(l, api.Pair{Key: number(i), Value: who, Stamp: r.Intn(9)})
			}
		}
		return l
	}
	for range 1000 {
		a, b := some(r.Intn(200), "a"), some(r.Intn(200), "b")
		check(t, "Union", table.Union(a, b), modelUnion(a, b))
	}
}

// P4.1, P4.6 and D6: moves, also to where they come from, to a beginning of it, or below it.
func TestMoves(t *testing.T) {
	all := tables(len(keys), "t")
	for _, from := range slices.Concat(keys, more) {
		for _, to := range slices.Concat(keys, more) {
			for i := range all {
				if i%29 == len(from+to) || i == len(all)-1 {
					checkMove(t, all[i], from, to)
				}
			}
		}
	}
}

func checkMove(t *testing.T, l []api.Pair, from, to string) {
	t.Helper()
	got := table.Moved(l, from, to)
	check(t, "Moved", got, modelMoved(modelOf(l), from, to).list())
	old := modelOf(l).which(func(k string) bool { return strings.HasPrefix(k, from) }).list()
	check(t, "Moved there and back", table.Moved(got, to, from), old)
	if len(got) != len(old) {
		t.Fatalf("Moved(%#v, %#v, %#v): %d pairs of %d", l, from, to, len(got), len(old))
	}
	for i, p := range got {
		if p.Value != old[i].Value || p.Stamp != old[i].Stamp {
			t.Fatalf("Moved(%#v, %#v, %#v): %#v", l, from, to, p)
		}
	}
}

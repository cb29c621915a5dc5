package fold_test

import (
	"math/rand"
	"slices"
	"testing"

	"downspout/api"
	"downspout/fold"
	"downspout/msg"
	"downspout/span"
)

var all, belowA, belowB = sp("", ""), span.Prefix("a/"), span.Prefix("b/")

// P6.1, F2: the examples of the chapter, and some more lists, written out.
func TestReduce(t *testing.T) {
	for i, c := range []struct{ l, want []api.Msg }{
		{nil, nil},
		{[]api.Msg{put("a", "1"), put("b", "2"), put("a", "3")}, []api.Msg{put("b", "2"), put("a", "3")}},
		{[]api.Msg{put("a", "1"), stamp(span.One("a"), 2), put("a", "3")}, []api.Msg{put("a", "3")}},
		{[]api.Msg{put("a/x", "1"), drop(belowA)}, []api.Msg{drop(belowA)}},
		{[]api.Msg{put("a/x", "1"), move("a/", "b/"), drop(belowA)}, []api.Msg{put("a/x", "1"), move("a/", "b/"), drop(belowA)}},
		{[]api.Msg{put("b/x", "1"), move("a/", "b/")}, []api.Msg{move("a/", "b/")}},
		{[]api.Msg{put("a", "1"), del("a")}, []api.Msg{del("a")}},
		{[]api.Msg{del("a"), put("a", "1")}, []api.Msg{put("a", "1")}},
		{[]api.Msg{drop(belowA), put("a/x", "1")}, []api.Msg{drop(belowA), put("a/x", "1")}},
		{[]api.Msg{drop(sp("a/b", "a/c")), stamp(belowA, 1), drop(belowA)}, []api.Msg{drop(belowA)}},
		{ // two Drops that touch have all keys of a span, and with one key between them they have not
			[]api.Msg{stamp(sp("a", "c"), 1), drop(sp("a", "b")), drop(sp("b", "c"))},
			[]api.Msg{drop(sp("a", "b")), drop(sp("b", "c"))},
		},
		{
			[]api.Msg{stamp(sp("a", "c"), 1), drop(sp("a", "b")), drop(sp("b\x00", "c"))},
			[]api.Msg{stamp(sp("a", "c"), 1), drop(sp("a", "b")), drop(sp("b\x00", "c"))},
		},
		{ // all of what a Move writes has to be dead, and then what it reads does not matter
			[]api.Msg{put("a/x", "1"), move("a/", "b/"), drop(belowB), drop(belowA)},
			[]api.Msg{drop(belowB), drop(belowA)},
		},
		{ // what a Clone reads matters, even if it is dead
			[]api.Msg{put("a/x", "1"), clone("a/", "b/"), drop(belowA)},
			[]api.Msg{put("a/x", "1"), clone("a/", "b/"), drop(belowA)},
		},
		{ // a Stamp changes what is there
			[]api.Msg{put("a", "1"), stamp(all, 2), stamp(all, 3)},
			[]api.Msg{put("a", "1"), stamp(all, 2), stamp(all, 3)},
		},
	} {
		if got := fold.Reduce(c.l); !slices.Equal(got, c.want) {
			t.Errorf("case %d: %#v", i, got)
		}
	}
}

// P6.1, F1 and F4: dead spans in any order, that meet, touch and are empty; what is dead in the end.
func TestLive(t *testing.T) {
	for i, c := range []struct {
		l    []api.Msg
		dead []api.Span
		want []api.Msg
		end  []api.Span
	}{
		{nil, nil, nil, nil},
		{nil, []api.Span{sp("c", ""), sp("b", "a"), sp("a", "b"), sp("x", "x"), sp("b", "c")}, nil, []api.Span{sp("a", "")}},
		{[]api.Msg{put("a", "1")}, []api.Span{sp("a", "a")}, []api.Msg{put("a", "1")}, []api.Span{span.One("a")}},
		{[]api.Msg{put("a", "1")}, []api.Span{sp("c", "d"), sp("a", "b")}, nil, []api.Span{sp("a", "b"), sp("c", "d")}},
		{[]api.Msg{drop(sp("a", "c"))}, []api.Span{sp("b", "d"), sp("", "b")}, nil, []api.Span{sp("", "d")}},
		{[]api.Msg{drop(sp("a", "c"))}, []api.Span{sp("b", "d")}, []api.Msg{drop(sp("a", "c"))}, []api.Span{sp("a", "d")}},
		{[]api.Msg{drop(sp("a", ""))}, []api.Span{sp("a", "b")}, []api.Msg{drop(sp("a", ""))}, []api.Span{sp("a", "")}},
		{[]api.Msg{clone("a/", "b/")}, []api.Span{belowA}, []api.Msg{clone("a/", "b/")}, []api.Span{belowB}},
		{[]api.Msg{move("a/", "b/")}, []api.Span{all}, nil, []api.Span{all}},
		{[]api.Msg{move("a/", "b/")}, []api.Span{sp("a/x", "")}, []api.Msg{move("a/", "b/")}, []api.Span{sp("a0", "")}},
		{[]api.Msg{stamp(belowA, 1)}, []api.Span{sp("", "a/m"), sp("a/n", "")}, []api.Msg{stamp(belowA, 1)}, []api.Span{sp("", "a/"), sp("a0", "")}},
	} {
		got, end := fold.Live(c.l, c.dead)
		if !slices.Equal(got, c.want) || !slices.Equal(end, c.end) {
			t.Errorf("case %d: %#v, %q", i, got, end)
		}
	}
}

// checkFold compares a fold with the model, and checks P6.4.
func checkFold(t *testing.T, l []api.Msg, dead []api.Span) {
	t.Helper()
	got, end := fold.Live(l, dead)
	want, wantEnd := modelLive(l, dead)
	checkList(t, "Live", l, got, want)
	if !slices.Equal(end, wantEnd) {
		t.Fatalf("Live of %#v for %q: %q, not %q", l, dead, end, wantEnd)
	}
	again, endAgain := fold.Live(got, dead)
	checkList(t, "Live again", got, again, got)
	if !slices.Equal(endAgain, end) {
		t.Fatalf("Live of %#v for %q: %q, then %q", l, dead, end, endAgain)
	}
}

// checkReduce compares Reduce and Merge with the model, wherever a list is cut in two.
func checkReduce(t *testing.T, l []api.Msg) {
	t.Helper()
	want, _ := modelLive(l, nil)
	checkList(t, "Reduce", l, fold.Reduce(l), want)
	checkList(t, "Reduce again", want, fold.Reduce(want), want)
	for i := range len(l) + 1 {
		a, b := l[:i], l[i:]
		checkList(t, "Merge", l, fold.Merge(a, b), want)
		checkList(t, "Merge of shorter lists", l, fold.Merge(fold.Reduce(a), fold.Reduce(b)), want)
	}
}

// P6.1, P6.4: all lists of at most three messages, for all pairs of dead spans of some texts.
func TestSmallLists(t *testing.T) {
	ms := messages(small)
	dead := [][]api.Span{nil, {sp("b", "a")}}
	for _, a := range spans(small) {
		for _, b := range spans(small) {
			dead = append(dead, []api.Span{a, b})
		}
	}
	for i, m := range ms {
		for j, n := range ms {
			for k, o := range ms {
				l := []api.Msg{m, n, o}
				checkReduce(t, l)
				checkFold(t, l, dead[(i*len(ms)*len(ms)+j*len(ms)+k)%len(dead)])
			}
		}
		for _, d := range dead {
			checkFold(t, []api.Msg{m}, d)
			checkFold(t, []api.Msg{ms[(i*7+1)%len(ms)], m}, d)
		}
	}
}

// random returns some of the messages in some order, and some of the spans.
func random(r *rand.Rand, ms []api.Msg, ss []api.Span, most int) ([]api.Msg, []api.Span) {
	var l []api.Msg
	for range r.Intn(most) {
		l = append(l, ms[r.Intn(len(ms))])
	}
	var dead []api.Span
	for range r.Intn(4) {
		dead = append(dead, ss[r.Intn(len(ss))])
	}
	return l, dead
}

// P6.1, P6.4, P6.5: longer lists, with more keys and more dead spans.
func TestLongerLists(t *testing.T) {
	r := rand.New(rand.NewSource(6))
	ends := []string{"\x00", "a", "a/", "a/x", "a/x\x00", "a/y", "a0", "b", "b/", "b/x", "b0", "c", "\xff", "\xff\xff"}
	ms := messages(ends)
	for _, k := range ends {
		for range 20 { // single keys are in a message as often as spans, lest they be covered at once
			ms = append(ms, put(k, "v"), del(k), stamp(span.One(k), 3))
		}
	}
	ss := append(spans(ends), sp("b", "a"), sp("a", "a"))
	for range 2000 {
		l, dead := random(r, ms, ss, 25)
		checkFold(t, l, dead)
		checkReduce(t, l)
	}
}

// checkEffect checks what a fold leaves of a list against the whole list, on a table. P6.2, P6.3, P6.7.
func checkEffect(t *testing.T, tab, other []api.Pair, l []api.Msg, dead []api.Span) {
	t.Helper()
	checkTable(t, "Reduce", l, msg.All(tab, fold.Reduce(l)), msg.All(tab, l))
	stay, end := fold.Live(l, dead)
	want := where(msg.All(tab, l), dead, false)
	checkTable(t, "Live", l, where(msg.All(tab, stay), dead, false), want)
	mixed := mix(tab, other, end)
	checkTable(t, "the pairs that do not matter", l, where(msg.All(mixed, stay), dead, false), want)
	checkTable(t, "no pairs that do not matter", l, where(msg.All(where(tab, end, false), stay), dead, false), want)
}

// P6.2: the effect of the whole list, on all tables. P6.3: outside of the dead spans, the effect of the whole list.
// P6.7: pairs in the spans that are dead in the end do not matter.
func TestEffects(t *testing.T) {
	r := rand.New(rand.NewSource(61))
	tabs, ms, ss := tables(), messages(texts), spans(texts)
	for range 2500 {
		l, dead := random(r, ms, ss, 9)
		checkEffect(t, tabs[len(tabs)-1], nil, l, dead)
		for range 10 {
			checkEffect(t, tabs[r.Intn(len(tabs))], tabs[r.Intn(len(tabs))], l, dead)
		}
	}
	for range 100 {
		l, dead := random(r, ms, ss, 6)
		for i, tab := range tabs {
			checkEffect(t, tab, tabs[(i*11+5)%len(tabs)], l, dead)
		}
	}
}

// P6.2, P6.3 and P6.7, for all pairs of messages.
func TestEffectsOfPairs(t *testing.T) {
	tabs, ms, ss := tables(), messages(small), spans(small)
	full := tabs[len(tabs)-1]
	for i, m := range ms {
		for j, n := range ms {
			for k, s := range ss {
				other := tabs[(i*31+j*7+k)%len(tabs)]
				checkEffect(t, full, other, []api.Msg{m, n}, []api.Span{s})
				checkEffect(t, other, full, []api.Msg{m, n}, []api.Span{s})
			}
		}
	}
}

// P6.1, P6.5, F3: Merge has the effect of both lists, whether they were reduced before or not.
func TestMerge(t *testing.T) {
	r := rand.New(rand.NewSource(62))
	tabs, ms, ss := tables(), messages(texts), spans(texts)
	for range 3000 {
		a, _ := random(r, ms, ss, 8)
		b, _ := random(r, ms, ss, 8)
		tab := tabs[r.Intn(len(tabs))]
		want := msg.All(msg.All(tab, a), b)
		checkList(t, "Merge", slices.Concat(a, b), fold.Merge(a, b), fold.Reduce(slices.Concat(a, b)))
		checkTable(t, "Merge", slices.Concat(a, b), msg.All(tab, fold.Merge(a, b)), want)
		checkTable(t, "Merge of shorter lists", slices.Concat(a, b), msg.All(tab, fold.Merge(fold.Reduce(a), fold.Reduce(b))), want)
	}
	a, b := []api.Msg{put("a", "1"), put("b", "2")}, []api.Msg{put("a", "3")}
	checkList(t, "Merge", a, fold.Merge(a, b), []api.Msg{put("b", "2"), put("a", "3")})
	checkList(t, "Merge with none", a, fold.Merge(a, nil), a)
	checkList(t, "Merge of none", a, fold.Merge(nil, a), a)
	checkList(t, "Merge of nothing", nil, fold.Merge(nil, nil), nil)
}

// P6.6: a Drop of all keys at the end leaves only itself; of several Puts of one key that stand together the last one stays.
func TestCovering(t *testing.T) {
	r := rand.New(rand.NewSource(63))
	ms, ss := messages(texts), spans(texts)
	for range 2000 {
		l, _ := random(r, ms, ss, 12)
		checkList(t, "a Drop of all", l, fold.Reduce(append(l, drop(all))), []api.Msg{drop(all)})
		a, _ := random(r, ms, ss, 5)
		k := texts[r.Intn(len(texts))]
		last := slices.Concat(a, []api.Msg{put(k, "3")})
		more := slices.Concat(a, []api.Msg{put(k, "1"), put(k, "2"), put(k, "1"), put(k, "3")})
		checkList(t, "Puts of one key", more, fold.Reduce(more), fold.Reduce(last))
		if got := fold.Reduce(more); got[len(got)-1] != put(k, "3") {
			t.Fatalf("Reduce of %#v: %#v", more, got)
		}
	}
}

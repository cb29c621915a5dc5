package trace_test

import (
	"math/rand"
	"slices"
	"testing"

	"downspout/api"
	"downspout/msg"
	"downspout/span"
	"downspout/table"
	"downspout/trace"
)

var all, belowA, belowB = sp("", ""), span.Prefix("a/"), span.Prefix("b/")

// chapter are the messages of the chapter's examples.
var chapter = []api.Msg{put("a/x", "1", 2), move("a/", "b/"), stamp(belowB, 9)}

// P7.1, G1: the examples of the chapter, and some more keys, written out.
func TestKey(t *testing.T) {
	for _, c := range []struct {
		k    string
		l    []api.Msg
		want api.Found
	}{
		{"b/x", chapter, isPair("b/x", "1", 9)},
		{"b/y", chapter, stampedFrom("b/y", "a/y", 9)},
		{"a/x", chapter, gone},
		{"c", chapter, comesFrom("c", "c")},
		{"", nil, comesFrom("", "")},
		{"", []api.Msg{stamp(all, 0)}, stampedFrom("", "", 0)},
		{"", []api.Msg{put("a", "1", 2), del("a"), drop(sp("a", "")), move("a", "b")}, comesFrom("", "")},
		{"a", []api.Msg{put("a", "1", 2), put("a", "", 0)}, isPair("a", "", 0)},
		{"a", []api.Msg{put("a/", "1", 2), del("a\x00"), drop(sp("a\x00", ""))}, comesFrom("a", "a")},
		{"a", []api.Msg{put("a", "1", 2), del("a"), put("b", "1", 2)}, gone},
		{"b", []api.Msg{drop(sp("b", "c"))}, gone},
		{"c", []api.Msg{drop(sp("b", "c")), stamp(sp("b", "c"), 1)}, comesFrom("c", "c")},
		// the prefix itself is below it, and a text that is next to it is not
		{"b/", []api.Msg{move("a/", "b/")}, comesFrom("b/", "a/")},
		{"a/", []api.Msg{move("a/", "b/")}, gone},
		{"b", []api.Msg{move("a/", "b/")}, comesFrom("b", "b")},
		{"b0", []api.Msg{move("a/", "b/")}, comesFrom("b0", "b0")},
		{"bcd", []api.Msg{move("long", "bc")}, comesFrom("bcd", "longd")},
		{"\xff\xff", []api.Msg{clone("a", "\xff")}, comesFrom("\xff\xff", "a\xff")},
		// several renames
		{"c/x", []api.Msg{move("a/", "b/"), clone("b/", "c/")}, comesFrom("c/x", "a/x")},
		{"b/x", []api.Msg{move("a/", "b/"), clone("b/", "c/")}, comesFrom("b/x", "a/x")},
		{"a/x", []api.Msg{move("a/", "b/"), clone("b/", "c/")}, gone},
		{"b/x", []api.Msg{move("a/", "b/"), move("b/", "a/")}, gone},
		{"b/x", []api.Msg{clone("b/", "a/"), clone("a/", "b/")}, comesFrom("b/x", "b/x")},
		{"b/x/y", []api.Msg{move("b/x", "c"), move("c", "a/x"), move("a/", "b/")}, comesFrom("b/x/y", "b/x/y")},
		// the last stamp counts, if the key was there then, under the name that it had
		{"a", []api.Msg{stamp(all, 1), stamp(all, 2), stamp(sp("b", "c"), 3)}, stampedFrom("a", "a", 2)},
		{"a", []api.Msg{stamp(all, 5), put("a", "1", 2)}, isPair("a", "1", 2)},
		{"a", []api.Msg{put("a", "1", 2), stamp(all, 5), stamp(all, 0)}, isPair("a", "1", 0)},
		{"a", []api.Msg{del("a"), stamp(all, 5)}, gone},
		{"b/x", []api.Msg{stamp(belowA, 5), stamp(belowB, 6), move("a/", "b/")}, stampedFrom("b/x", "a/x", 5)},
		{"b/x", []api.Msg{stamp(belowA, 5), move("a/", "b/"), stamp(belowA, 6)}, stampedFrom("b/x", "a/x", 5)},
	} {
		checkFound(t, c.k, c.l, trace.Key(c.k, c.l), c.want)
	}
}

// P7.1, G2: of a key that is known, of one whose pair is below, and of one without; with stamps.
func TestValue(t *testing.T) {
	below := pair("below", "v", 4)
	for i, c := range []struct {
		f    api.Found
		p    api.Pair
		has  bool
		want api.Pair
		ok   bool
	}{
		{isPair("k", "w", 1), below, true, pair("k", "w", 1), true},
		{isPair("k", "", 0), api.Pair{}, false, pair("k", "", 0), true},
		{gone, below, true, api.Pair{}, false},
		{gone, below, false, api.Pair{}, false},
		{comesFrom("k", "below"), below, true, pair("k", "v", 4), true},
		{comesFrom("k", "below"), below, false, api.Pair{}, false},
		{comesFrom("", "below"), api.Pair{}, true, api.Pair{}, true},
		{stampedFrom("k", "below", 7), below, true, pair("k", "v", 7), true},
		{stampedFrom("k", "below", 0), below, true, pair("k", "v", 0), true},
		{stampedFrom("k", "below", 7), below, false, api.Pair{}, false},
		// a stamp that was not found does not count, nor is the key of the pair looked at
		{api.Found{Pair: pair("k", "other", 8), Key: "other", Stamp: 7}, below, true, pair("k", "v", 4), true},
		{api.Found{}, below, true, pair("", "v", 4), true},
	} {
		if got, ok := trace.Value(c.f, c.p, c.has); got != c.want || ok != c.ok {
			t.Errorf("case %d: %#v, %v", i, got, ok)
		}
	}
}

// P7.1, G3: the example of the chapter, and some more spans, written out.
func TestSpans(t *testing.T) {
	for _, c := range []struct {
		s    api.Span
		l    []api.Msg
		want []api.Span
	}{
		{belowB, chapter, []api.Span{sp("a/", "a/x"), sp("a/x\x00", "a0")}},
		{belowA, chapter, nil},
		{all, nil, []api.Span{all}},
		{sp("b", "a"), nil, nil},
		{sp("a", "a"), []api.Msg{clone("b", "a")}, nil},
		{sp("a", "c"), []api.Msg{put("a", "", 0), del("b"), drop(sp("b0", "b1")), stamp(all, 1)}, []api.Span{sp("a\x00", "b"), sp("b\x00", "b0"), sp("b1", "c")}},
		{all, []api.Msg{drop(sp("", "a")), drop(sp("b", ""))}, []api.Span{sp("a", "b")}},
		{all, []api.Msg{drop(sp("", "b")), drop(sp("a", ""))}, nil},
		// a Move takes away what is in the new place, and in the old one; a Clone lets that stay
		{all, []api.Msg{move("a/", "b/")}, []api.Span{sp("", "b/"), sp("b0", "")}},
		{all, []api.Msg{clone("a/", "b/")}, []api.Span{sp("", "b/"), sp("b0", "")}},
		{sp("a/m", "b/c"), []api.Msg{move("a/", "b/")}, []api.Span{sp("a/", "a/c"), sp("a0", "b/")}},
		{sp("a/m", "b/c"), []api.Msg{clone("a/", "b/")}, []api.Span{sp("a/", "a/c"), sp("a/m", "b/")}},
		{sp("a/m", "b/t"), []api.Msg{clone("a/", "b/")}, []api.Span{sp("a/", "b/")}},
		{sp("b/x", "c"), []api.Msg{clone("a/", "b/")}, []api.Span{sp("a/x", "a0"), sp("b0", "c")}},
		// a part that is moved joins those that it touches
		{sp("a", "a/x\x00"), []api.Msg{move("a/y", "a/x")}, []api.Span{sp("a", "a/x"), sp("a/y", "a/y\x00")}},
		{sp("b", "bx"), []api.Msg{clone("a", "b"), drop(sp("ax", "b"))}, []api.Span{sp("a", "ax")}},
		{sp("b", ""), []api.Msg{move("a", "\xff")}, []api.Span{sp("a", "\xff")}},
		// where Prefix has no upper end
		{sp("\xff\xff", ""), []api.Msg{move("a", "\xff")}, []api.Span{sp("a\xff", "b")}},
		{sp("a", "ax"), []api.Msg{move("\xff", "a")}, []api.Span{sp("\xff", "\xffx")}},
		{sp("ax", ""), []api.Msg{move("\xff", "a")}, []api.Span{sp("b", "\xff"), sp("\xffx", "")}},
		{sp("b\xff", "c"), []api.Msg{move("\xff\xff", "b")}, []api.Span{sp("\xff\xff\xff", "")}},
	} {
		checkSpans(t, c.s, c.l, trace.Spans(c.s, c.l), c.want)
	}
}

// checkKeys compares what is found of some keys with the model.
func checkKeys(t *testing.T, keys []string, l []api.Msg) {
	t.Helper()
	for _, k := range keys {
		checkFound(t, k, l, trace.Key(k, l), modelKey(k, l))
	}
}

// checkNeeds compares the spans on which some spans depend with the model.
func checkNeeds(t *testing.T, ss []api.Span, l []api.Msg) {
	t.Helper()
	for _, s := range ss {
		checkSpans(t, s, l, trace.Spans(s, l), modelSpans(s, l))
	}
}

// P7.1, P7.5: all lists of one, two and three messages: all keys, and all spans or, of three, one of them, against the model.
func TestSmallLists(t *testing.T) {
	ms, ss := messages(small), append(spans(small), sp("b", "a"))
	some := []string{"a", "a/", "a/x", "a/xy", "a/y", "b/", "b/x", "b/xy", "b0"}
	for i, m := range ms {
		checkKeys(t, some, []api.Msg{m})
		checkNeeds(t, ss, []api.Msg{m})
		for j, n := range ms {
			checkKeys(t, some, []api.Msg{m, n})
			checkNeeds(t, ss, []api.Msg{m, n})
			for k, o := range ms {
				s := (i*5 + j*3 + k) % len(ss)
				checkKeys(t, some, []api.Msg{m, n, o})
				checkNeeds(t, ss[s:s+1], []api.Msg{m, n, o})
			}
		}
	}
}

// random returns some of the messages in some order.
func random(r *rand.Rand, ms []api.Msg, most int) []api.Msg {
	var l []api.Msg
	for range r.Intn(most) {
		l = append(l, ms[r.Intn(len(ms))])
	}
	return l
}

// frequent returns messages, among which those for long spans are rare, lest all keys come to an end at once.
func frequent(texts []string) []api.Msg {
	ms := messages(texts)
	for _, m := range slices.Clone(ms) {
		if m.Kind == api.Drop && m.Span.Hi != "" && m.Span.Lo != "" || m.Kind == api.Put {
			ms = append(ms, m)
		}
		if m.Kind == api.Move || m.Kind == api.Clone {
			ms = append(ms, slices.Repeat([]api.Msg{m}, 9)...)
		}
	}
	return ms
}

// P7.1, P7.5: longer lists, with more keys, against the model.
func TestLongerLists(t *testing.T) {
	r := rand.New(rand.NewSource(7))
	ms, ss := frequent(texts), spans(texts)
	for range 1500 {
		l := random(r, ms, 12)
		checkKeys(t, keys, l)
		for range 3 {
			checkNeeds(t, []api.Span{ss[r.Intn(len(ss))]}, l)
		}
	}
}

// randomTable returns a table with some of the keys.
func randomTable(r *rand.Rand) []api.Pair {
	var t []api.Pair
	for i, k := range keys {
		if r.Intn(2) == 0 {
			t = append(t, pair(k, "v"+string(rune('0'+r.Intn(10))), 1000+i))
		}
	}
	return t
}

// P7.2: what is found of a key, with the pair below, is the pair in the effect, for any table.
func TestReading(t *testing.T) {
	r := rand.New(rand.NewSource(72))
	ms := frequent(texts)
	for range 8000 {
		l, tab := random(r, ms, 10), randomTable(r)
		after := msg.All(tab, l)
		for _, k := range keys {
			f := trace.Key(k, l)
			below, is := table.Find(tab, f.Key)
			got, ok := trace.Value(f, below, is)
			if want, found := table.Find(after, k); got != want || ok != found {
				t.Fatalf("%q after %#v on %#v: %#v, %v, not %#v, %v", k, l, tab, got, ok, want, found)
			}
		}
	}
}

// P7.3: the pairs of a span in the effect are the same if there are no other pairs than those of Spans, or others instead.
func TestNeed(t *testing.T) {
	r := rand.New(rand.NewSource(73))
	ms, ss := frequent(texts), spans(texts)
	for range 4000 {
		l, tab, s := random(r, ms, 10), randomTable(r), ss[r.Intn(len(ss))]
		needs := trace.Spans(s, l)
		want := where(msg.All(tab, l), s)
		others := where(randomTable(r), span.Minus([]api.Span{all}, needs)...)
		for _, other := range [][]api.Pair{nil, others} {
			mixed := table.Union(where(tab, needs...), other)
			if got := where(msg.All(mixed, l), s); !slices.Equal(got, want) {
				t.Fatalf("%q after %#v on %#v: %#v, not %#v", s, l, mixed, got, want)
			}
		}
	}
}

// through follows a key through two lists, first the later one.
func through(k string, first, later []api.Msg) api.Found {
	f := trace.Key(k, later)
	if f.Known {
		return f
	}
	below := trace.Key(f.Key, first)
	if below.Known {
		p, is := trace.Value(f, below.Pair, below.Has)
		return api.Found{Known: true, Has: is, Pair: p}
	}
	if !f.Stamped {
		f.Stamped, f.Stamp = below.Stamped, below.Stamp
	}
	f.Key = below.Key
	return f
}

// P7.4: keys and spans through both parts of a list, wherever it is cut.
func TestParts(t *testing.T) {
	r := rand.New(rand.NewSource(74))
	ms, ss := frequent(texts), spans(texts)
	for range 800 {
		l, s := random(r, ms, 9), ss[r.Intn(len(ss))]
		for i := range len(l) + 1 {
			for _, k := range keys {
				checkFound(t, k, l, through(k, l[:i], l[i:]), trace.Key(k, l))
			}
			var needs []api.Span
			for _, part := range trace.Spans(s, l[i:]) {
				needs = append(needs, trace.Spans(part, l[:i])...)
			}
			checkSpans(t, s, l, span.Norm(needs), trace.Spans(s, l))
		}
	}
}

// P7.5: a key in a span comes from a key in Spans, if it does not come to an end.
func TestKeysOfSpans(t *testing.T) {
	r := rand.New(rand.NewSource(75))
	ms, ss := frequent(texts), spans(texts)
	for range 3000 {
		l, s := random(r, ms, 10), ss[r.Intn(len(ss))]
		needs := trace.Spans(s, l)
		for _, k := range keys {
			if f := trace.Key(k, l); has(s, k) && !f.Known && !listHas(needs, f.Key) {
				t.Fatalf("Spans(%q, %#v): %q, without %q, from which %q comes", s, l, needs, f.Key, k)
			}
		}
	}
}

// P7.6: through a Drop of all keys, each key comes to an end; through no messages, none does.
func TestKnown(t *testing.T) {
	r := rand.New(rand.NewSource(76))
	ms := frequent(texts)
	for range 500 {
		l := slices.Concat(random(r, ms, 4), []api.Msg{drop(all)}, random(r, ms, 4))
		for _, k := range keys {
			if f := trace.Key(k, l); !f.Known {
				t.Fatalf("Key(%q, %#v): %#v", k, l, f)
			}
			checkFound(t, k, nil, trace.Key(k, nil), comesFrom(k, k))
			checkFound(t, k, nil, trace.Key(k, []api.Msg{}), comesFrom(k, k))
		}
		checkSpans(t, all, l, trace.Spans(all, l), nil)
	}
	for _, s := range spans(texts) {
		checkSpans(t, s, nil, trace.Spans(s, nil), []api.Span{s})
	}
}

// P7.7: two keys come from the same one through a Clone; through messages without Clone, no two do.
func TestCopies(t *testing.T) {
	twice := []api.Msg{clone("a/", "b/")}
	checkFound(t, "a/x", twice, trace.Key("a/x", twice), comesFrom("a/x", "a/x"))
	checkFound(t, "b/x", twice, trace.Key("b/x", twice), comesFrom("b/x", "a/x"))
	r := rand.New(rand.NewSource(77))
	ms := slices.DeleteFunc(frequent(texts), func(m api.Msg) bool { return m.Kind == api.Clone })
	for range 5000 {
		l := random(r, ms, 10)
		whose := map[string]string{}
		for _, k := range keys {
			f := trace.Key(k, l)
			if f.Known {
				continue
			}
			if other, twice := whose[f.Key]; twice {
				t.Fatalf("%q and %q come from %q through %#v", other, k, f.Key, l)
			}
			whose[f.Key] = k
		}
	}
}

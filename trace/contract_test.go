package trace_test

import (
	"slices"
	"strconv"
	"strings"
	"testing"

	"downspout/api"
	"downspout/span"
	"downspout/trace"
)

// P1: messages that are not valid are accepted, whatever is returned for them.
func TestOddMessages(t *testing.T) {
	var odd []api.Msg
	for kind := -1; kind <= 8; kind++ {
		for _, s := range []api.Span{{}, sp("b", "a"), sp("a", "a"), sp("a/x", "a/")} {
			for _, to := range []string{"", "a/", "a/x", "b/"} {
				odd = append(odd, api.Msg{Kind: kind, Key: to, N: -1, Span: s, From: "a/", To: to})
				odd = append(odd, api.Msg{Kind: kind, Value: strings.Repeat("v", 100), Span: s, From: to})
			}
		}
	}
	odd = append(odd, api.Msg{Kind: -1 << 63}, api.Msg{Kind: 1<<63 - 1})
	for _, m := range odd {
		for _, n := range append(odd, messages(small)...) {
			l := []api.Msg{m, n, m}
			for _, k := range []string{"", "a/", "a/x", "b/x"} {
				trace.Key(k, l)
			}
			for _, s := range []api.Span{all, belowB, sp("a/x", ""), sp("b", "a")} {
				trace.Spans(s, l)
			}
		}
	}
}

// P1, G2: all values are accepted, even those that Key never returns.
func TestOddFound(t *testing.T) {
	odd := pair("k", strings.Repeat("v", 100), -1)
	for i, c := range []struct {
		f    api.Found
		has  bool
		want api.Pair
		ok   bool
	}{
		{api.Found{Known: true, Has: true, Pair: odd, Key: "x", Stamped: true, Stamp: -7}, false, odd, true},
		{api.Found{Has: true, Pair: odd, Key: "x"}, false, api.Pair{}, false},
		{api.Found{Has: true, Pair: odd, Stamped: true, Stamp: -7}, true, pair("k", "v", -7), true},
	} {
		if got, ok := trace.Value(c.f, pair("p", "v", 4), c.has); got != c.want || ok != c.ok {
			t.Errorf("case %d: %#v, %v", i, got, ok)
		}
	}
}

// P1: all keys and spans are accepted, whatever their bytes and lengths are.
func TestAllTexts(t *testing.T) {
	long := strings.Repeat("\xff", 100000)
	for _, k := range []string{"\x00", "\xff", long, "b/" + long, "\xc3", "a/\x02\x01\x02"} {
		l := []api.Msg{clone("b/", "c/"), move("a/", "b/"), stamp(belowB, 3)}
		checkFound(t, k, l, trace.Key(k, l), modelKey(k, l))
		for _, s := range []api.Span{sp(k, ""), sp("", k), sp("b/\x01", k), span.One(k), sp(k, "b/"), sp(k, k)} {
			checkSpans(t, s, l, trace.Spans(s, l), modelSpans(s, l))
		}
	}
}

// P1: long lists of messages, and of spans.
func TestLongLists(t *testing.T) {
	const n = 20000
	key := func(prefix string, i int) string { return prefix + strconv.Itoa(10*n+i) }
	var dels, renames []api.Msg
	var want []api.Span
	for i := range n {
		dels = append(dels, del(key("a/", 2*(i*7919%n))))
		renames = append(renames, move("a/", "b/"), move("b/", "a/"))
		want = append(want, sp(key("b/", 2*i)+"\x00", key("b/", 2*i+2)))
	}
	want[n-1].Hi = key("b/", 2*n-1)
	checkFound(t, "a/x", nil, trace.Key("a/x", renames), comesFrom("a/x", "a/x"))
	if got := trace.Spans(belowA, renames); !slices.Equal(got, []api.Span{belowA}) {
		t.Errorf("many renames: %q", got)
	}
	s := sp(key("a/", 0), key("a/", 2*n-1))
	if got := trace.Spans(s, slices.Concat([]api.Msg{move("b/", "a/")}, dels)); !slices.Equal(got, want) {
		t.Errorf("many Dels: %d spans", len(got))
	}
	if got := trace.Spans(all, slices.Concat([]api.Msg{drop(all)}, dels)); len(got) != 0 {
		t.Errorf("many Dels after a Drop: %d spans", len(got))
	}
}

// roomy returns a list that has other elements behind it, and all of them.
func roomy[E any](l []E, behind E) ([]E, []E) {
	room := append(slices.Clone(l), slices.Repeat([]E{behind}, 20)...)
	return room[:len(l)], room
}

// P2 and G4: results are the same again, and neither the functions nor changes of their results modify an argument, or what lies behind it.
func TestArgumentsStay(t *testing.T) {
	ms := messages(texts)
	for i := range ms {
		l, room := roomy([]api.Msg{ms[i], ms[i*3%len(ms)], ms[i*5%len(ms)]}, del("room"))
		want := slices.Clone(room)
		for _, k := range keys {
			f := trace.Key(k, l)
			checkFound(t, k, l, trace.Key(k, l), f)
		}
		for _, list := range [][]api.Msg{nil, l} {
			first := trace.Spans(all, list)
			needs := slices.Clone(first)
			for j := range first {
				first[j] = sp("changed", "")
			}
			_ = append(first, sp("added", ""))
			checkSpans(t, all, list, trace.Spans(all, list), needs)
		}
		if !slices.Equal(room, want) {
			t.Fatalf("%#v became %#v", want, room)
		}
	}
}

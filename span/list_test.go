package span_test

import (
	"math/rand"
	"slices"
	"testing"

	"downspout/api"
	"downspout/span"
)

// listCases are lists, what is taken out, and what Norm and Minus return.
var listCases = []struct{ l, m, norm, minus []api.Span }{
	{},
	{m: []api.Span{sp("a", "b")}},
	{l: []api.Span{sp("b", "a"), nothing}, m: []api.Span{sp("", "")}},
	{
		l: []api.Span{sp("c", "d"), sp("a", "c"), sp("x", "b")}, m: []api.Span{sp("b", "c")},
		norm: []api.Span{sp("a", "d")}, minus: []api.Span{sp("a", "b"), sp("c", "d")},
	},
	{
		l: []api.Span{sp("", "")}, m: []api.Span{sp("b", "c")},
		norm: []api.Span{sp("", "")}, minus: []api.Span{sp("", "b"), sp("c", "")},
	},
	{
		l: []api.Span{sp("", "")}, m: []api.Span{sp("", "\x00"), sp("z", "")},
		norm: []api.Span{sp("", "")}, minus: []api.Span{sp("\x00", "z")},
	},
	{ // spans that touch are one, those with a key between them are not
		l: []api.Span{sp("a", "b"), sp("b", "c"), sp("c\x00", "d")}, m: nil,
		norm: []api.Span{sp("a", "c"), sp("c\x00", "d")}, minus: []api.Span{sp("a", "c"), sp("c\x00", "d")},
	},
	{ // one within another one, the same one twice
		l: []api.Span{sp("a", "f"), sp("b", "c"), sp("a", "f")}, m: []api.Span{sp("d", "e"), sp("d", "e")},
		norm: []api.Span{sp("a", "f")}, minus: []api.Span{sp("a", "d"), sp("e", "f")},
	},
	{ // an empty Hi is above all others
		l: []api.Span{sp("b", ""), sp("c", "d"), sp("a", "")}, m: []api.Span{sp("\xff", "")},
		norm: []api.Span{sp("a", "")}, minus: []api.Span{sp("a", "\xff")},
	},
	{ // what is taken out begins or ends where a span does
		l: []api.Span{sp("a", "c"), sp("e", "g")}, m: []api.Span{sp("c", "e"), sp("", "a"), sp("g", "")},
		norm: []api.Span{sp("a", "c"), sp("e", "g")}, minus: []api.Span{sp("a", "c"), sp("e", "g")},
	},
	{ // a part that is taken out joins the border of two spans
		l: []api.Span{sp("a", "c"), sp("c", "e")}, m: []api.Span{sp("b", "c"), sp("c", "d")},
		norm: []api.Span{sp("a", "e")}, minus: []api.Span{sp("a", "b"), sp("d", "e")},
	},
	{ // empty spans take nothing out
		l: []api.Span{sp("a", "e")}, m: []api.Span{sp("d", "b"), sp("c", "c")},
		norm: []api.Span{sp("a", "e")}, minus: []api.Span{sp("a", "e")},
	},
	{
		l: []api.Span{sp("a", "b"), sp("c", "")}, m: []api.Span{sp("", "")},
		norm: []api.Span{sp("a", "b"), sp("c", "")}, minus: nil,
	},
}

// P2.1, B4: normal lists and differences, written out.
func TestNormAndMinus(t *testing.T) {
	for i, x := range listCases {
		if got := span.Norm(x.l); !slices.Equal(got, x.norm) {
			t.Errorf("case %d: Norm(%q): %q", i, x.l, got)
		}
		if got := span.Minus(x.l, x.m); !slices.Equal(got, x.minus) {
			t.Errorf("case %d: Minus(%q, %q): %q", i, x.l, x.m, got)
		}
	}
}

// checkNorm checks a normal list key by key.
func checkNorm(t *testing.T, l []api.Span) {
	t.Helper()
	got := span.Norm(l)
	if !modelNormal(got) {
		t.Fatalf("Norm(%q) is not normal: %q", l, got)
	}
	for _, k := range witnesses(l, got) {
		if modelListHas(got, k) != modelListHas(l, k) {
			t.Fatalf("Norm(%q): %q, and %q", l, got, k)
		}
	}
	if again := span.Norm(got); !slices.Equal(again, got) {
		t.Fatalf("Norm(%q): %q", got, again)
	}
}

// checkMinus checks a difference key by key.
func checkMinus(t *testing.T, l, m []api.Span) {
	t.Helper()
	got := span.Minus(l, m)
	if !modelNormal(got) {
		t.Fatalf("Minus(%q, %q) is not normal: %q", l, m, got)
	}
	for _, k := range witnesses(l, m, got) {
		if modelListHas(got, k) != (modelListHas(l, k) && !modelListHas(m, k)) {
			t.Fatalf("Minus(%q, %q): %q, and %q", l, m, got, k)
		}
	}
}

// P2.5: a normal list has the keys of the list, whatever its order; it is normal itself.
func TestNormalLists(t *testing.T) {
	all := spans([]string{"", "\x00", "a", "b", "\xff"})
	for _, a := range all {
		checkNorm(t, []api.Span{a})
		for _, b := range all {
			checkNorm(t, []api.Span{a, b})
			for _, c := range all {
				checkNorm(t, []api.Span{a, b, c})
				want := span.Norm([]api.Span{a, b, c})
				for _, l := range [][]api.Span{{a, c, b}, {b, a, c}, {b, c, a}, {c, a, b}, {c, b, a}, {c, b, a, a}} {
					if got := span.Norm(l); !slices.Equal(got, want) {
						t.Fatalf("Norm(%q): %q, but in another order %q", l, got, want)
					}
				}
			}
		}
	}
}

// P2.6: what is left is in the first list, and not in the second one.
func TestDifferences(t *testing.T) {
	all := spans([]string{"", "a", "a\x00", "b"})
	for _, a := range all {
		checkMinus(t, []api.Span{a}, nil)
		checkMinus(t, nil, []api.Span{a})
		for _, b := range all {
			checkMinus(t, []api.Span{a}, []api.Span{b})
			for _, c := range all {
				checkMinus(t, []api.Span{a, b}, []api.Span{c})
				checkMinus(t, []api.Span{a}, []api.Span{b, c})
				for _, d := range all {
					checkMinus(t, []api.Span{a, b}, []api.Span{c, d})
				}
			}
		}
	}
}

// randomSpans returns spans between keys, some of which are empty.
func randomSpans(r *rand.Rand, keys []string) []api.Span {
	var l []api.Span
	for range r.Intn(12) {
		l = append(l, sp(keys[r.Intn(len(keys))], keys[r.Intn(len(keys))]))
	}
	return l
}

// P2.5 and P2.6, for longer lists.
func TestLongerLists(t *testing.T) {
	r := rand.New(rand.NewSource(2))
	few, many := borders, universe()
	for range 3000 {
		for _, keys := range [][]string{few, many} {
			l, m := randomSpans(r, keys), randomSpans(r, keys)
			checkNorm(t, l)
			checkMinus(t, l, m)
			want := span.Norm(l)
			r.Shuffle(len(l), func(i, j int) { l[i], l[j] = l[j], l[i] })
			if got := span.Norm(l); !slices.Equal(got, want) {
				t.Fatalf("Norm(%q): %q, but in another order %q", l, got, want)
			}
		}
	}
}

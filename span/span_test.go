package span_test

import (
	"slices"
	"strings"
	"testing"

	"downspout/api"
	"downspout/span"
)

// P2.1, B1: prefixes and single keys have the ends that the chapter says.
func TestPrefixAndOne(t *testing.T) {
	for p, want := range map[string]api.Span{
		"":                 sp("", ""),
		"a":                sp("a", "b"),
		"a/":               sp("a/", "a0"),
		"a\x00":            sp("a\x00", "a\x01"),
		"\x00":             sp("\x00", "\x01"),
		"a\xfe":            sp("a\xfe", "a\xff"),
		"a\xff":            sp("a\xff", "b"),
		"a\xff\xff\xff":    sp("a\xff\xff\xff", "b"),
		"\xfe\xff":         sp("\xfe\xff", "\xff"),
		"\xff":             sp("\xff", ""),
		"\xff\xff":         sp("\xff\xff", ""),
		"\xffa":            sp("\xffa", "\xffb"),
		"\xff\x00\xff":     sp("\xff\x00\xff", "\xff\x01"),
		"a\xffb":           sp("a\xffb", "a\xffc"),
		"\x7f":             sp("\x7f", "\x80"), // bytes, not runes
		"\xc3\xa9":         sp("\xc3\xa9", "\xc3\xaa"),
		"\x05000000ff/":    sp("\x05000000ff/", "\x05000000ff0"),
		"a/\x02\x00\xff":   sp("a/\x02\x00\xff", "a/\x02\x01"),
		"a/\x02\xff\xff/~": sp("a/\x02\xff\xff/~", "a/\x02\xff\xff/\x7f"),
	} {
		if got := span.Prefix(p); got != want {
			t.Errorf("Prefix(%q): %q", p, got)
		}
	}
	for k, want := range map[string]api.Span{"": sp("", "\x00"), "a": sp("a", "a\x00"), "\xff": sp("\xff", "\xff\x00"), "a\x00": sp("a\x00", "a\x00\x00")} {
		if got := span.One(k); got != want {
			t.Errorf("One(%q): %q", k, got)
		}
	}
	for _, k := range universe() {
		for _, other := range universe() {
			if modelHas(span.One(k), other) != (k == other) {
				t.Fatalf("One(%q) and %q", k, other)
			}
		}
	}
}

// P2.2: a prefix has exactly the keys that begin with it.
func TestPrefixes(t *testing.T) {
	for _, p := range universe() {
		s := span.Prefix(p)
		if s.Lo != p || s.Hi != "" && s.Hi[len(s.Hi)-1] == 0 {
			t.Fatalf("Prefix(%q): %q", p, s)
		}
		for _, k := range universe() {
			want := strings.HasPrefix(k, p)
			if modelHas(s, k) != want || span.Has(s, k) != want {
				t.Fatalf("Prefix(%q) and %q", p, k)
			}
		}
		for _, k := range []string{p + above, p + "\x00\x00\x00", p + "\xff" + p} {
			if !span.Has(s, k) {
				t.Fatalf("Prefix(%q) lacks %q", p, k)
			}
		}
		if s.Hi != "" && span.Has(s, s.Hi) {
			t.Fatalf("Prefix(%q) has %q", p, s.Hi)
		}
	}
}

// P2.1, B2: a span has the keys from Lo on that are less than Hi, where an empty Hi is above all keys.
func TestHasAndEmpty(t *testing.T) {
	keys := universe()
	for _, s := range spans(borders) {
		some := false
		for _, k := range keys {
			want := modelHas(s, k)
			if span.Has(s, k) != want {
				t.Fatalf("Has(%q, %q): %v", s, k, !want)
			}
			some = some || want
		}
		if span.Empty(s) == some {
			t.Errorf("Empty(%q): %v", s, some)
		}
	}
	for _, x := range []struct {
		s     api.Span
		empty bool
	}{{sp("", ""), false}, {sp("a", ""), false}, {sp("\xff", ""), false}, {sp("a", "a"), true}, {sp("b", "a"), true}, {sp("a", "a\x00"), false}, {sp("a\x00", "a"), true}, {sp("", "\x00"), false}} {
		if got := span.Empty(x.s); got != x.empty {
			t.Errorf("Empty(%q): %v", x.s, got)
		}
	}
}

// P2.1, B3: where spans meet, written out.
func TestMeet(t *testing.T) {
	for _, x := range []struct{ a, b, want api.Span }{
		{sp("a", "c"), sp("b", ""), sp("b", "c")},
		{sp("a", ""), sp("b", ""), sp("b", "")},
		{sp("", ""), sp("", ""), sp("", "")},
		{sp("", "b"), sp("", ""), sp("", "b")},
		{sp("a", "d"), sp("b", "c"), sp("b", "c")},
		{sp("a", "b"), sp("b", "c"), nothing},
		{sp("a", "b"), sp("c", "d"), nothing},
		{sp("x", "x"), sp("", ""), nothing},
		{sp("c", "b"), sp("", ""), nothing},
		{sp("c", "b"), sp("c", "b"), nothing},
		{sp("a", "z"), sp("m", "c"), nothing},
	} {
		if got := span.Meet(x.a, x.b); got != x.want {
			t.Errorf("Meet(%q, %q): %q", x.a, x.b, got)
		}
	}
}

// P2.3: two spans meet in the keys that both have; the order does not matter.
func TestMeeting(t *testing.T) {
	for _, a := range spans(borders) {
		for _, b := range spans(borders) {
			m := span.Meet(a, b)
			if m != span.Meet(b, a) {
				t.Fatalf("Meet(%q, %q) depends on the order", a, b)
			}
			if modelEmpty(m) && m != nothing {
				t.Fatalf("Meet(%q, %q): %q", a, b, m)
			}
			for _, k := range witnesses([]api.Span{a, b, m}) {
				if modelHas(m, k) != (modelHas(a, k) && modelHas(b, k)) {
					t.Fatalf("Meet(%q, %q) and %q", a, b, k)
				}
			}
		}
	}
}

// P2.4: a span covers another one exactly if no key of that is outside of it.
func TestCovering(t *testing.T) {
	for _, a := range spans(borders) {
		for _, b := range spans(borders) {
			want := true
			for _, k := range witnesses([]api.Span{a, b}) {
				want = want && (!modelHas(b, k) || modelHas(a, k))
			}
			if got := span.Covers(a, b); got != want {
				t.Fatalf("Covers(%q, %q): %v", a, b, got)
			}
		}
	}
	for _, x := range []struct {
		a, b api.Span
		want bool
	}{
		{sp("", ""), sp("a", ""), true}, {sp("a", ""), sp("", ""), false},
		{sp("a", "b"), sp("a", "b"), true}, {sp("a", "b"), sp("a", ""), false}, {sp("a", ""), sp("a", "b"), true},
		{nothing, sp("y", "x"), true}, {sp("a", "b"), sp("y", "x"), true}, {sp("y", "x"), sp("a", "b"), false}, {nothing, sp("a", ""), false},
		{sp("a", "c"), sp("b", "d"), false}, {sp("b", "d"), sp("a", "c"), false}, {sp("a", "c"), sp("b", "c"), true}, {sp("a", "c"), sp("a", "b"), true},
	} {
		if got := span.Covers(x.a, x.b); got != x.want {
			t.Errorf("Covers(%q, %q): %v", x.a, x.b, got)
		}
	}
}

// P2.1, B5: parts, written out.
func TestParts(t *testing.T) {
	for _, x := range []struct {
		s      api.Span
		pivots []string
		want   []api.Span
	}{
		{sp("b", "d"), nil, []api.Span{sp("b", "d")}},
		{sp("b", "a"), nil, []api.Span{nothing}},
		{sp("", ""), nil, []api.Span{sp("", "")}},
		{sp("b", "d"), []string{"c", "e"}, []api.Span{sp("b", "c"), sp("c", "d"), nothing}},
		{sp("", ""), []string{"c", "e"}, []api.Span{sp("", "c"), sp("c", "e"), sp("e", "")}},
		{sp("c", ""), []string{"a", "c"}, []api.Span{nothing, nothing, sp("c", "")}},
		{sp("a", "c"), []string{"c"}, []api.Span{sp("a", "c"), nothing}},
		{sp("x", "x"), []string{"a", "z"}, []api.Span{nothing, nothing, nothing}},
		{sp("", "\x00"), []string{"\x00", "\xff"}, []api.Span{sp("", "\x00"), nothing, nothing}},
	} {
		if got := span.Parts(x.s, x.pivots); !slices.Equal(got, x.want) {
			t.Errorf("Parts(%q, %q): %q", x.s, x.pivots, got)
		}
	}
}

// P2.7: the parts of a span have all of its keys, each one once, in order.
func TestPartsHaveAll(t *testing.T) {
	pivots := borders[1:]
	for set := range 1 << len(pivots) {
		var l []string
		for i, p := range pivots {
			if set>>i&1 == 1 {
				l = append(l, p)
			}
		}
		for _, s := range spans(borders) {
			checkParts(t, s, l)
		}
	}
}

func checkParts(t *testing.T, s api.Span, pivots []string) {
	t.Helper()
	parts := span.Parts(s, pivots)
	if len(parts) != len(pivots)+1 {
		t.Fatalf("Parts(%q, %q): %q", s, pivots, parts)
	}
	for _, k := range witnesses([]api.Span{s}, parts) {
		home := 0 // the part in which the key must be
		for home < len(pivots) && pivots[home] <= k {
			home++
		}
		for i, part := range parts {
			if modelHas(part, k) != (modelHas(s, k) && i == home) {
				t.Fatalf("Parts(%q, %q): %q, and %q", s, pivots, parts, k)
			}
			if modelEmpty(part) && part != nothing {
				t.Fatalf("Parts(%q, %q): %q", s, pivots, parts)
			}
		}
	}
}

// P2.1, B6: keys are moved, and others refused.
func TestMoved(t *testing.T) {
	for _, x := range []struct {
		k, from, to, want string
		ok                bool
	}{
		{"a/x", "a/", "b/", "b/x", true},
		{"a/", "a/", "b/", "b/", true},
		{"a/", "a/", "", "", true},
		{"a/a/a/", "a/", "b/", "b/a/a/", true}, // just the first one
		{"x", "", "y", "yx", true},
		{"", "", "y", "y", true},
		{"", "", "", "", true},
		{"a/\x02\xff\x00", "a/", "\xff", "\xff\x02\xff\x00", true},
		{"a", "a/", "b/", "", false},
		{"c", "a/", "b/", "", false},
		{"", "a", "b", "", false},
		{"xa/", "a/", "b/", "", false},
		{"A/x", "a/", "b/", "", false},
	} {
		if got, ok := span.Moved(x.k, x.from, x.to); got != x.want || ok != x.ok {
			t.Errorf("Moved(%q, %q, %q): %q, %v", x.k, x.from, x.to, got, ok)
		}
	}
}

// P2.8: moving keys keeps their order, and can be taken back.
func TestMoving(t *testing.T) {
	beginnings := []string{"", "a", "a/", "a/b/", "ab", "b\xff", "\x00", "\xff\xff"}
	tails := texts(alphabet, 2)
	slices.Sort(tails)
	for _, from := range beginnings {
		for _, to := range beginnings {
			last := ""
			for i, tail := range tails {
				k, ok := span.Moved(from+tail, from, to)
				if !ok || k != to+tail {
					t.Fatalf("Moved(%q, %q, %q): %q, %v", from+tail, from, to, k, ok)
				}
				if i > 0 && k <= last {
					t.Fatalf("%q comes after %q", k, last)
				}
				last = k
				if back, ok := span.Moved(k, to, from); !ok || back != from+tail {
					t.Fatalf("Moved(%q, %q, %q): %q, %v", k, to, from, back, ok)
				}
				if !span.Has(span.Prefix(to), k) {
					t.Fatalf("%q is not in the prefix %q", k, to)
				}
			}
		}
	}
	for _, k := range universe() {
		for _, from := range beginnings {
			if _, ok := span.Moved(k, from, "x"); ok != span.Has(span.Prefix(from), k) {
				t.Fatalf("Moved(%q, %q): %v", k, from, ok)
			}
		}
	}
}

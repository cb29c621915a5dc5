package span_test

import (
	"slices"
	"strconv"
	"strings"
	"testing"

	"downspout/api"
	"downspout/span"
)

// oddTexts are short and long texts of all kinds of bytes.
func oddTexts() []string {
	l := slices.Clone(borders)
	for b := range 256 {
		l = append(l, string([]byte{byte(b)}))
	}
	for _, s := range []string{"\x00", "a/", "\xff"} {
		l = append(l, strings.Repeat(s, 100000))
	}
	return append(l, "\xc3\xa9", "\xc3", "\xed\xa0\x80", "a/\x02\x01\x02")
}

// P1: all functions accept all texts, and a key that is not moved is empty.
func TestAllTexts(t *testing.T) {
	all := oddTexts()
	for _, a := range all {
		if s := span.Prefix(a); s.Lo != a || !span.Has(s, a) || !span.Has(s, a+"\xff") {
			t.Errorf("Prefix of %d bytes", len(a))
		}
		if s := span.One(a); !span.Has(s, a) || span.Has(s, a+"\x00") || span.Empty(s) {
			t.Errorf("One of %d bytes", len(a))
		}
		for _, b := range all {
			if k, ok := span.Moved(a, b, "x"); ok != strings.HasPrefix(a, b) || !ok && k != "" {
				t.Fatalf("Moved of %d bytes: %v", len(a), ok)
			}
			s := sp(a, b)
			if span.Empty(s) != modelEmpty(s) || !span.Covers(s, s) || span.Meet(s, s) != s && !modelEmpty(s) {
				t.Fatalf("a span of %d and %d bytes", len(a), len(b))
			}
		}
	}
}

// P1: lists that are no pivots are accepted, whatever is returned for them.
func TestNoPivots(t *testing.T) {
	for _, pivots := range [][]string{{""}, {"", ""}, {"b", "a"}, {"a", "a"}, {"b", "", "a"}} {
		for _, s := range spans(borders) {
			span.Parts(s, pivots)
		}
	}
}

// P1: long lists are accepted.
func TestLongLists(t *testing.T) {
	const n = 100000
	var l, m []api.Span
	var pivots []string
	for i := range n {
		k := strconv.Itoa(1000000 + i)
		l = append(l, sp(k, k+"\x02"))
		m = append(m, sp(k+"\x01", ""))
		pivots = append(pivots, k)
	}
	if got := span.Norm(l); len(got) != n || !slices.Equal(got, l) {
		t.Errorf("Norm: %d spans", len(got))
	}
	slices.Reverse(l)
	if got := span.Minus(l, m); len(got) != 1 || got[0] != sp("1000000", "1000000\x01") {
		t.Errorf("Minus: %d spans", len(got))
	}
	if got := span.Parts(sp("", ""), pivots); len(got) != n+1 {
		t.Errorf("Parts: %d spans", len(got))
	}
}

// P2 and B7: results are the same again, and neither the functions nor changes of their results modify an argument.
func TestArgumentsStay(t *testing.T) {
	for _, x := range listCases {
		l, m := slices.Clone(x.l), slices.Clone(x.m)
		pivots := []string{"a", "b", "c"}
		calls := []func() []api.Span{
			func() []api.Span { return span.Norm(l) },
			func() []api.Span { return span.Minus(l, m) },
			func() []api.Span { return span.Minus(l, nil) },
			func() []api.Span { return span.Norm(x.norm) },
			func() []api.Span { return span.Parts(sp("a", ""), pivots) },
		}
		for i, call := range calls {
			norm := slices.Clone(x.norm)
			first := call()
			want := slices.Clone(first)
			for j := range first {
				first[j] = sp("changed", "changed")
			}
			if again := call(); !slices.Equal(again, want) {
				t.Errorf("call %d: %q, then %q", i, want, again)
			}
			if !slices.Equal(l, x.l) || !slices.Equal(m, x.m) || !slices.Equal(norm, x.norm) || !slices.Equal(pivots, []string{"a", "b", "c"}) {
				t.Errorf("call %d changes its arguments", i)
			}
		}
	}
}

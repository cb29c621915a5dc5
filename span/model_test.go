package span_test

import (
	"slices"

	"downspout/api"
)

// The model looks at single keys: a span, or a list of spans, is the set of the keys of a universe that it has.
// Two spans differ in a key where one of them begins or ends, or in a key above all of these; so a universe with all such keys tells them apart.

func sp(lo, hi string) api.Span { return api.Span{Lo: lo, Hi: hi} }

// nothing is how results say that there is no key.
var nothing = sp("a", "a")

func modelHas(s api.Span, k string) bool {
	if k < s.Lo {
		return false
	}
	return s.Hi == "" || k < s.Hi
}

func modelEmpty(s api.Span) bool { return s.Hi != "" && s.Hi <= s.Lo }

func modelListHas(l []api.Span, k string) bool {
	for _, s := range l {
		if modelHas(s, k) {
			return true
		}
	}
	return false
}

// modelNormal reports whether a list is normal, by the words of the chapter.
func modelNormal(l []api.Span) bool {
	for i, s := range l {
		if modelEmpty(s) || s.Hi == "" && i != len(l)-1 || i > 0 && s.Lo <= l[i-1].Hi {
			return false
		}
	}
	return true
}

// texts returns all texts of at most n bytes from an alphabet.
func texts(alphabet string, n int) []string {
	all := []string{""}
	from := 0
	for range n {
		to := len(all)
		for _, s := range all[from:to] {
			for i := range len(alphabet) {
				all = append(all, s+alphabet[i:i+1])
			}
		}
		from = to
	}
	return all
}

// alphabet has the least and the greatest bytes, and some in between, two of which are next to each other.
const alphabet = "\x00ab\xfe\xff"

// universe returns the keys of which the tests ask.
func universe() []string { return texts(alphabet, 3) }

// borders are keys where spans of the tests begin and end. As a Hi, the empty one is above all keys.
var borders = []string{"", "\x00", "\x00\x00", "a", "a\x00", "a\xff", "b", "\xff", "\xff\xff"}

// spans returns all spans between keys, the empty ones among them.
func spans(keys []string) []api.Span {
	var l []api.Span
	for _, lo := range keys {
		for _, hi := range keys {
			l = append(l, sp(lo, hi))
		}
	}
	return l
}

// above is a key that is greater than all borders.
const above = "\xff\xff\xff"

// witnesses returns the keys in which lists of spans may differ: where a span begins or ends, their neighbours, and a key above all.
func witnesses(lists ...[]api.Span) []string {
	keys := []string{"", above}
	for _, l := range lists {
		for _, s := range l {
			keys = append(keys, s.Lo, s.Lo+"\x00", s.Hi, s.Hi+"\x00")
		}
	}
	slices.Sort(keys)
	return slices.Compact(keys)
}

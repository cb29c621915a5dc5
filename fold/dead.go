package fold

import (
	"slices"
	"sort"

	"downspout/api"
	"downspout/msg"
	"downspout/span"
)

// deadKeys are keys whose pairs do not matter, as a normal list of spans.
type deadKeys []api.Span

// near returns where the spans begin and end in the list that meet s or touch it.
// They are few, so that changes leave the rest of a long list alone.
func (d deadKeys) near(s api.Span) (int, int) {
	from := sort.Search(len(d), func(i int) bool { return d[i].Hi == "" || d[i].Hi >= s.Lo })
	to := sort.Search(len(d), func(i int) bool { return s.Hi != "" && d[i].Lo > s.Hi })
	return from, max(from, to)
}

// lack reports whether some key of a span is not dead.
func (d deadKeys) lack(s api.Span) bool {
	// Spans of a normal list do not touch: a single one has all keys of s, or none does.
	from, to := d.near(s)
	return from == to || !span.Covers(d[from], s)
}

// before returns the keys that are dead before a message. It takes the place of d.
func (d deadKeys) before(m api.Msg) deadKeys {
	for _, s := range msg.Kills(m) {
		from, to := d.near(s)
		d = slices.Replace(d, from, to, span.Norm(slices.Concat(d[from:to], []api.Span{s}))...)
	}
	for _, s := range msg.Reads(m) {
		from, to := d.near(s)
		d = slices.Replace(d, from, to, span.Minus(d[from:to], []api.Span{s})...)
	}
	return d
}

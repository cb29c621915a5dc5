package route

import (
	"slices"
	"sort"

	"downspout/api"
	"downspout/span"
)

// blocked are the keys that messages which stay read or write, past which no other message may go.
// They are a list of spans that do not meet, in order, so that those near a message are found quickly.
type blocked []api.Span

// meeting returns where the spans that meet s, which is not empty, begin and end in the list.
func (b blocked) meeting(s api.Span) (int, int) {
	from := sort.Search(len(b), func(i int) bool { return b[i].Hi == "" || b[i].Hi > s.Lo })
	to := sort.Search(len(b), func(i int) bool { return s.Hi != "" && b[i].Lo >= s.Hi })
	return from, to
}

// meets reports whether some key of a span is blocked.
func (b blocked) meets(s api.Span) bool {
	from, to := b.meeting(s)
	return from < to
}

// with returns the keys that are blocked, and those of more spans. It takes the place of b.
func (b blocked) with(l []api.Span) blocked {
	for _, s := range l {
		from, to := b.meeting(s)
		b = slices.Replace(b, from, to, span.Norm(slices.Concat(b[from:to], []api.Span{s}))...)
	}
	return b
}

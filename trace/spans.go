package trace

import (
	"slices"
	"sort"

	"downspout/api"
	"downspout/span"
)

// spanLooks returns how messages change from which keys those of a span come.
func spanLooks() looks[keys] {
	settle := func(m api.Msg, k keys) keys { return k.without(span.One(m.Key)) }
	moveBack := func(m api.Msg, k keys) keys {
		from, to := span.Prefix(m.From), span.Prefix(m.To)
		moved := k.in(to).moved(m.To, m.From)
		return k.without(to).with(from, moved)
	}
	return looks[keys]{
		api.Put:  settle,
		api.Del:  settle,
		api.Drop: func(m api.Msg, k keys) keys { return k.without(m.Span) },
		api.Move: func(m api.Msg, k keys) keys {
			// Nothing is left in the old place, so that its keys come from nowhere.
			return moveBack(m, k.without(span.Prefix(m.From)))
		},
		api.Clone: moveBack,
		api.Stamp: func(m api.Msg, k keys) keys { return k },
	}
}

// keys are keys that are followed back, as a normal list of spans. Methods that return other ones may change the list.
type keys []api.Span

// keysOf returns the keys of a span.
func keysOf(s api.Span) keys { return slices.Clone(span.Norm([]api.Span{s})) }

// near returns where the spans begin and end in the list that meet s or touch it.
// They are often few, so that changes leave the rest of a long list alone.
func (k keys) near(s api.Span) (int, int) {
	first := sort.Search(len(k), func(i int) bool { return k[i].Hi == "" || k[i].Hi >= s.Lo })
	behind := sort.Search(len(k), func(i int) bool { return s.Hi != "" && k[i].Lo > s.Hi })
	return first, max(first, behind)
}

// in returns the keys that are in a span, in a list of its own.
func (k keys) in(s api.Span) keys {
	first, behind := k.near(s)
	var inside keys
	for _, part := range k[first:behind] {
		if both := span.Meet(part, s); !span.Empty(both) {
			inside = append(inside, both)
		}
	}
	return inside
}

// without returns the keys that are not in a span.
func (k keys) without(s api.Span) keys {
	first, behind := k.near(s)
	return slices.Replace(k, first, behind, span.Minus(k[first:behind], []api.Span{s})...)
}

// with returns these keys and more, all of which are in a span.
func (k keys) with(s api.Span, more keys) keys {
	first, behind := k.near(s)
	return slices.Replace(k, first, behind, span.Norm(slices.Concat(k[first:behind], more))...)
}

// moved returns the keys with to in the place of from, with which they all begin.
func (k keys) moved(from, to string) keys {
	var l keys
	for _, s := range k {
		lo, _ := span.Moved(s.Lo, from, to)
		hi, inside := span.Moved(s.Hi, from, to)
		if !inside {
			// The span goes on to the last key that begins with from.
			hi = span.Prefix(to).Hi
		}
		l = append(l, api.Span{Lo: lo, Hi: hi})
	}
	return l
}

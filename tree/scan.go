package tree

import (
	"iter"
	"slices"

	"downspout/api"
	"downspout/msg"
	"downspout/span"
	"downspout/table"
	"downspout/trace"
)

// Scan returns the pairs of a span.
func Scan(t api.Tree, s api.Span) ([]api.Pair, api.Errno) {
	return whole(t, maxLevels).pairs(span.Norm([]api.Span{s}))
}

// pairs returns the pairs of a branch in a normal list of spans.
func (b branch) pairs(wanted []api.Span) ([]api.Pair, api.Errno) {
	if b.levels == 0 {
		// No tree has that many, and what goes on might go in a circle.
		return nil, api.ErrLost
	}
	n, err := read(b.pool, b.id)
	if err != api.OK || isLeaf(n) {
		return in(n.Pairs, wanted), err
	}
	stages, wanted := stagesOf(n.Buf, wanted)
	var t []api.Pair
	for p, err := range b.below(n, wanted) {
		if err != api.OK {
			return nil, err
		}
		t = append(t, p)
	}
	for _, s := range stages {
		t = in(msg.All(t, s.msgs), s.wanted)
	}
	return t, api.OK
}

// below yields the pairs of the kids of the node in a normal list of spans, in order.
// If a node cannot be read, it yields an error in place of a pair, and ends.
func (b branch) below(n api.Node, wanted []api.Span) iter.Seq2[api.Pair, api.Errno] {
	return func(yield func(api.Pair, api.Errno) bool) {
		for _, kid := range b.kids(n) {
			part := meeting(wanted, kid.span)
			if len(part) == 0 {
				continue
			}
			t, err := kid.pairs(part)
			for _, p := range t {
				if !yield(p, api.OK) {
					return
				}
			}
			if err != api.OK {
				yield(api.Pair{}, err)
				return
			}
		}
	}
}

// in returns the pairs of a table in a normal list of spans.
func in(t []api.Pair, l []api.Span) []api.Pair {
	var some []api.Pair
	for _, s := range l {
		some = append(some, table.Range(t, s)...)
	}
	return some
}

// meeting returns where the spans of a list meet a span.
func meeting(l []api.Span, s api.Span) []api.Span {
	var parts []api.Span
	for _, part := range l {
		if both := span.Meet(part, s); !span.Empty(both) {
			parts = append(parts, both)
		}
	}
	return parts
}

// stage is some messages of a buffer, one after the other, and what is wanted of their effect, as a normal list of spans.
type stage struct {
	msgs   []api.Msg
	wanted []api.Span
}

// stagesOf returns the stages of a buffer after which some spans are wanted, and the spans that are wanted before them.
// Since a Clone may double what is there, a new stage begins with it, so that no effect is much longer than what is wanted of it.
func stagesOf(buf []api.Msg, wanted []api.Span) ([]stage, []api.Span) {
	var l []stage
	for len(buf) > 0 {
		first := lastClone(buf)
		l = append(l, stage{buf[first:], wanted})
		wanted = sources(wanted, buf[first:])
		buf = buf[:first]
	}
	slices.Reverse(l)
	return l, wanted
}

// lastClone returns the index of the last Clone, or 0 if there is none.
func lastClone(l []api.Msg) int {
	for i, m := range slices.Backward(l) {
		if m.Kind == api.Clone {
			return i
		}
	}
	return 0
}

// sources returns the keys from which those of some spans come through messages, as a normal list.
func sources(l []api.Span, msgs []api.Msg) []api.Span {
	var from []api.Span
	for _, s := range l {
		from = append(from, trace.Spans(s, msgs)...)
	}
	return span.Norm(from)
}

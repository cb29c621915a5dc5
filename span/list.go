package span

import (
	"slices"
	"strings"

	"downspout/api"
)

// end is where a span begins or ends.
type end struct {
	key  string
	top  bool // above all keys, where a span with an empty Hi ends
	step int  // what it adds to the number of spans that are open
	list int  // the list of which the span is
}

// low returns where a span begins.
func low(s api.Span) end { return end{key: s.Lo, step: 1} }

// high returns where a span ends.
func high(s api.Span) end { return end{key: s.Hi, top: s.Hi == "", step: -1} }

// compare tells which of two ends comes first.
func (e end) compare(o end) int {
	if e.top != o.top {
		if e.top {
			return 1
		}
		return -1
	}
	return strings.Compare(e.key, o.key)
}

// ends returns the ends of all spans of the lists, in order. Empty spans have none.
func ends(lists ...[]api.Span) []end {
	var all []end
	for i, l := range lists {
		for _, s := range l {
			if Empty(s) {
				continue
			}
			lo, hi := low(s), high(s)
			lo.list, hi.list = i, i
			all = append(all, lo, hi)
		}
	}
	slices.SortFunc(all, end.compare)
	return all
}

// Norm returns the shortest list of spans with the same keys, in order.
func Norm(l []api.Span) []api.Span { return Minus(l, nil) }

// Minus returns the keys of l that m does not have.
func Minus(l, m []api.Span) []api.Span {
	var left []api.Span
	var open [2]int
	lo, inside := "", false
	all := ends(l, m)
	for i, e := range all {
		open[e.list] += e.step
		// Ends at the same key count together: no span is left between them.
		if i+1 < len(all) && e.compare(all[i+1]) == 0 {
			continue
		}
		now := open[0] > 0 && open[1] == 0
		if now && !inside {
			lo = e.key
		}
		if inside && !now {
			left = append(left, api.Span{Lo: lo, Hi: e.key})
		}
		inside = now
	}
	return left
}

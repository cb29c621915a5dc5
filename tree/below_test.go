package tree

import (
	"slices"
	"testing"

	"downspout/api"
)

// Pairs of kids are yielded until nobody wants more: ranging stops the program if one is yielded after that.
func TestBelowEndsEarly(t *testing.T) {
	a, b, c := api.Pair{Key: "a"}, api.Pair{Key: "b"}, api.Pair{Key: "c"}
	root := api.Node{Kids: []int{0, 1, 2, 0}, Pivots: []string{"c", "d", "e"}}
	p := api.Pool{Slots: []api.Slot{{Used: true, Node: api.Node{Pairs: []api.Pair{a, b}}}, {Used: true, Node: api.Node{Pairs: []api.Pair{c}}}, {Used: true, Lost: true}, {Used: true, Node: root}}}
	top := whole(api.Tree{Pool: p, Root: 3}, maxLevels)
	want := []api.Pair{a, b, c, {}}
	for n := range len(want) + 1 {
		var got []api.Pair
		for p, err := range top.below(root, []api.Span{{}}) {
			got = append(got, p)
			if (err != api.OK) != (len(got) == len(want)) {
				t.Errorf("pair %d: %d", len(got), err)
			}
			if len(got) > n {
				break
			}
		}
		if !slices.Equal(got, want[:min(n+1, len(want))]) {
			t.Errorf("%d pairs are wanted, and these are yielded: %v", n+1, got)
		}
	}
}

package settle

import (
	"testing"

	"downspout/api"
)

// Settled messages are yielded until nobody wants more: ranging stops the program if one is yielded after that.
func TestSettledEndsEarly(t *testing.T) {
	source := []api.Pair{{Key: "a/x"}, {Key: "a/y"}, {Key: "a/z"}}
	for _, m := range []api.Msg{
		{Kind: api.Move, From: "a/", To: "b/"},
		{Kind: api.Clone, From: "a/", To: "b/"},
		{Kind: api.Del, Key: "a/x"},
	} {
		l := List(m, source)
		for n := range l {
			got := 0
			for x := range settled(m, source) {
				if x != l[got] {
					t.Errorf("message %d of %#v: %#v", got, m, x)
				}
				got++
				if got > n {
					break
				}
			}
			if got != n+1 {
				t.Errorf("%d messages of %#v are wanted, and %d are yielded", n+1, m, got)
			}
		}
	}
}

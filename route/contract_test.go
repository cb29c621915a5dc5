package route_test

import (
	"slices"
	"strconv"
	"strings"
	"testing"

	"downspout/api"
	"downspout/route"
	"downspout/span"
)

// oddMessages are messages that are not valid, of all kinds and of none.
func oddMessages() []api.Msg {
	l := []api.Msg{{Kind: -1 << 63}, {Kind: 1<<63 - 1}}
	for kind := -1; kind <= 8; kind++ {
		for _, s := range []api.Span{{}, sp("b", "a"), sp("a", "a")} {
			for _, to := range []string{"", "a/", "a/x", "b/"} {
				l = append(l, api.Msg{Kind: kind, Key: to, N: -1, Span: s, From: "a/", To: to})
				l = append(l, api.Msg{Kind: kind, Value: strings.Repeat("v", 100), Span: s, From: to})
			}
		}
	}
	return l
}

// P1: messages that are not valid, lists that are no pivots, and kids that there are not, are accepted, whatever is returned for them.
func TestOddArguments(t *testing.T) {
	odd := oddMessages()
	lists := [][]string{nil, {""}, {"b/"}, {"", "a"}, {"b", "a"}, {"a/", "a/", "a/"}, {"c", "", "b/", "a/x", "\xff"}}
	for _, pivots := range lists {
		for _, k := range []string{"", "a/x", "b", "\xff\xff"} {
			route.Kid(k, pivots)
		}
		for j, m := range append(odd, messages(small)...) {
			route.Crosses(m, pivots)
			route.Part(m, sp("b", "a"))
			route.Part(m, sp("a/x", ""))
			buf := list(move("a/", "b/"), m, odd[j*7%len(odd)], clone("b/", "a/"), m)
			for _, i := range []int{-1 << 63, -1, 0, 1, 2, 3, 4, 5, 6, 1<<63 - 1} {
				route.Ready(buf, pivots, i)
			}
		}
	}
}

// P1: all keys, whatever their bytes and lengths are.
func TestAllKeys(t *testing.T) {
	long := strings.Repeat("\xff", api.MaxKey)
	keys := []string{"\x00", "\x00\x00", "a\xff", "b", "\xc3", long[1:], long}
	for i, k := range keys {
		if got := route.Kid(k, keys); got != i+1 {
			t.Errorf("key %d goes to the kid %d", i, got)
		}
		if got := route.Kid(k+"\x00", keys[:i+1]); got != i+1 {
			t.Errorf("a key above the key %d goes to the kid %d", i, got)
		}
		buf := list(put(k), drop(k, ""), clone("a\xff", "\xff"), del(k), move("b", "c"), stamp("", k), put(long))
		for kid := range len(keys) + 1 {
			checkReady(t, buf, keys, kid)
		}
	}
}

// P1: many messages, of which many are blocked, and many pivots.
func TestLongBuffers(t *testing.T) {
	const n = 20000
	key := func(i int) string { return strconv.Itoa(10*n + i) }
	var buf, goes, stay []api.Msg
	var pivots []string
	for i := range n {
		m := clone("z/", key(i*7919%n*2))
		buf, stay = append(buf, m), append(stay, m)
		pivots = append(pivots, key(i))
	}
	for i := range n {
		m := put(key(i*7919%n*2) + "/")
		buf, stay = append(buf, m), append(stay, m)
		m = put(key(i*7919%n*2+1) + "/")
		buf, goes = append(buf, m), append(goes, m)
	}
	gotGoes, gotStay := route.Ready(buf, []string{"z"}, 0)
	if !slices.Equal(gotGoes, goes) || !slices.Equal(gotStay, stay) {
		t.Errorf("many are blocked: %d go, and %d stay", len(gotGoes), len(gotStay))
	}
	m := drop(key(2), key(n-1))
	got, left := route.Ready(list(m), pivots, n/2)
	checkList(t, "many pivots", got, list(drop(key(n/2-1), key(n/2))))
	checkList(t, "many pivots, what stays", left, list(drop(key(2), key(n/2-1)), drop(key(n/2), key(n-1))))
	if !route.Crosses(clone(key(n/2), "z"), pivots) || route.Crosses(clone("y", "z"), pivots) {
		t.Errorf("many pivots: a Clone crosses, and one above them does not")
	}
}

// roomy returns a list that has other elements behind it, and all of them.
func roomy[E any](l []E, behind E) ([]E, []E) {
	room := append(slices.Clone(l), slices.Repeat([]E{behind}, 20)...)
	return room[:len(l)], room
}

// change overwrites messages, and adds one behind them.
func change(l []api.Msg) {
	for i := range l {
		l[i] = put("changed")
	}
	_ = append(l, put("added"))
}

// P2 and H5: results are the same again, and neither the functions nor changes of their results modify an argument, or what lies behind it.
func TestArgumentsStay(t *testing.T) {
	ms, lists := messages(texts), pivotLists()
	for i, m := range ms {
		buf, bufRoom := roomy(list(m, ms[i*3%len(ms)], ms[i*5%len(ms)], ms[i*7%len(ms)], m), put("room"))
		pivots, pivotRoom := roomy(lists[i%len(lists)], "room")
		wantBuf, wantPivots := slices.Clone(bufRoom), slices.Clone(pivotRoom)
		for kid, s := range span.Parts(all, pivots) {
			goes, stay := route.Ready(buf, pivots, kid)
			wantGoes, wantStay := slices.Clone(goes), slices.Clone(stay)
			change(goes)
			checkList(t, "what stays, after a change of what goes", stay, wantStay)
			change(stay)
			goes, stay = route.Ready(buf, pivots, kid)
			checkList(t, "Ready again", goes, wantGoes)
			checkList(t, "Ready again, what stays", stay, wantStay)
			part := route.Part(m, s)
			wantPart := slices.Clone(part)
			change(part)
			checkList(t, "Part again", route.Part(m, s), wantPart)
			if route.Crosses(m, pivots) != route.Crosses(m, pivots) || route.Kid(m.Key, pivots) != route.Kid(m.Key, pivots) {
				t.Fatalf("%#v, pivots %q: other results", m, pivots)
			}
		}
		if !slices.Equal(bufRoom, wantBuf) || !slices.Equal(pivotRoom, wantPivots) {
			t.Fatalf("%#v and %q are changed", wantBuf, wantPivots)
		}
	}
}

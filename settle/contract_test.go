package settle_test

import (
	"slices"
	"strconv"
	"strings"
	"testing"

	"downspout/api"
	"downspout/msg"
	"downspout/settle"
)

// oddMessages are messages that are not valid, of all kinds and of none.
func oddMessages() []api.Msg {
	l := []api.Msg{{Kind: -1 << 63}, {Kind: 1<<63 - 1}}
	for kind := -1; kind <= 8; kind++ {
		for _, s := range []api.Span{{}, sp("b", "a"), sp("a", "a")} {
			for _, to := range []string{"", "a/", "a/x", "b/"} {
				l = append(l, api.Msg{Kind: kind, Key: to, N: -1, Span: s, From: "a/", To: to})
				l = append(l, api.Msg{Kind: kind, Value: strings.Repeat("v", 100), Span: s, From: to})
			}
		}
	}
	return l
}

// P1: messages that are not valid, pairs that are no source, and lists that are no pivots, are accepted, whatever is returned for them.
func TestOddArguments(t *testing.T) {
	sources := [][]api.Pair{nil, {{}}, {pair("b", "", -1), pair("a/x", "", 0), pair("a/x", "", 0), pair("a", "1", 1<<62), pair("", "", -1<<63)}}
	lists := [][]string{nil, {""}, {"b", "a"}, {"a/", "a/", "a/"}, {"c", "", "b/", "a/x", "\xff"}}
	for _, m := range slices.Concat(oddMessages(), moves()) {
		for _, source := range sources {
			settle.List(m, source)
			settle.Turn(list(m, m), source)
		}
		for _, pivots := range lists {
			settle.First(list(m, move("a/", "b/"), m), pivots)
		}
	}
}

// P1, P9.2: many pairs, with the longest keys, prefixes and values.
func TestLongSources(t *testing.T) {
	const n = 20000
	from, to := strings.Repeat("f", api.MaxPath), strings.Repeat("\xff", api.MaxPath)
	long := from + strings.Repeat("\xff", api.MaxKey-api.MaxPath)
	var source []api.Pair
	for i := range n {
		source = append(source, pair(from+strconv.Itoa(10*n+i), strings.Repeat("v", api.MaxValue), api.MaxStamp-i))
	}
	source = append(source, pair(long, "", 0))
	m := move(from, to)
	l := settle.List(m, source)
	checkList(t, "List", l, modelSettled(m, source))
	puts := l[1 : len(l)-1]
	if len(puts) != n+1 || slices.ContainsFunc(puts, func(m api.Msg) bool { return !msg.Valid(m) }) {
		t.Errorf("%d Puts, or one that is not valid", len(puts))
	}
	buf := append(list(m), slices.Repeat(list(m, clone(to, from)), n)...)
	got, err := settle.Turn(buf, source)
	if err != api.OK || !slices.Equal(got, slices.Concat(l, buf[1:])) {
		t.Errorf("Turn: %d messages, %d", len(got), err)
	}
	if at, is := settle.First(append(buf[:n:n], clone("f", "\xff")), []string{"f", "g"}); at != 0 || !is {
		t.Errorf("First: %d, %v", at, is)
	}
	if at, is := settle.First(append(slices.Repeat(list(put("a", "", 0)), n), m), []string{"g"}); at != n || !is {
		t.Errorf("First behind many: %d, %v", at, is)
	}
}

// roomy returns a list that has other elements behind it, and all of them.
func roomy[E any](l []E, behind E) ([]E, []E) {
	room := append(slices.Clone(l), slices.Repeat([]E{behind}, 20)...)
	return room[:len(l)], room
}

// P2 and I4: results are the same again, and neither the functions nor changes of their results modify an argument, or what lies behind it.
func TestArgumentsStay(t *testing.T) {
	ms, lists, full := slices.Concat(moves(), others()), pivotLists(), tables()[1<<len(texts)-1]
	for i, m := range ms {
		buf, bufRoom := roomy(list(m, ms[i*3%len(ms)], ms[i*7%len(ms)], m), put("room", "", 0))
		source, sourceRoom := roomy(sourceOf(m, full), pair("room", "", 0))
		pivots, pivotRoom := roomy(lists[i%len(lists)], "room")
		wantBuf, wantSource, wantPivots := slices.Clone(bufRoom), slices.Clone(sourceRoom), slices.Clone(pivotRoom)
		for n, call := range []func() []api.Msg{
			func() []api.Msg { return settle.List(m, source) },
			func() []api.Msg { l, _ := settle.Turn(buf, source); return l },
			func() []api.Msg { l, _ := settle.Turn(buf[:1], source); return l },
			func() []api.Msg { l, _ := settle.Turn(buf, nil); return l },
		} {
			got := call()
			want := slices.Clone(got)
			for j := range got {
				got[j] = put("changed", "", 0)
			}
			_ = append(got, put("added", "", 0))
			checkList(t, "again, call "+strconv.Itoa(n), call(), want)
		}
		at, is := settle.First(buf, pivots)
		if again, still := settle.First(buf, pivots); again != at || still != is {
			t.Fatalf("%#v, pivots %q: other results", buf, pivots)
		}
		if !slices.Equal(bufRoom, wantBuf) || !slices.Equal(sourceRoom, wantSource) || !slices.Equal(pivotRoom, wantPivots) {
			t.Fatalf("%#v, %#v and %q are changed", wantBuf, wantSource, wantPivots)
		}
	}
}

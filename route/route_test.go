package route_test

import (
	"math/rand"
	"slices"
	"strconv"
	"strings"
	"testing"

	"downspout/api"
	"downspout/msg"
	"downspout/route"
	"downspout/span"
	"downspout/table"
)

var all = sp("", "")

// P8.1, H1: at the pivots, next to them, and without any.
func TestKid(t *testing.T) {
	for _, c := range []struct {
		k      string
		pivots []string
		want   int
	}{
		{"a/x", []string{"b/"}, 0}, {"b/", []string{"b/"}, 1}, {"", nil, 0}, {"\xff", nil, 0}, {"", []string{"\x00"}, 0}, {"\x00", []string{"\x00"}, 1},
		{"b", []string{"b/", "c"}, 0}, {"b.\xff", []string{"b/", "c"}, 0}, {"b/\x00", []string{"b/", "c"}, 1}, {"bz", []string{"b/", "c"}, 1},
		{"c", []string{"b/", "c"}, 2}, {"c", []string{"a", "b", "c", "d", "e"}, 3}, {"\xff\xff", []string{"a", "\xff", "\xff\xff"}, 3},
	} {
		if got := route.Kid(c.k, c.pivots); got != c.want {
			t.Errorf("Kid(%q, %q): %d", c.k, c.pivots, got)
		}
	}
}

// P8.2: each key is in the span of its kid, and of no other one.
func TestKids(t *testing.T) {
	keys := []string{"", "\x00", "a", "a.", "a/", "a/\x00", "a/w", "a/x", "a/x\x00", "a/x\x00\x00", "a/y", "a/z\xff", "a0", "b/", "b/m", "b/n", "c", "c\x00", "\xff\xff"}
	for _, pivots := range pivotLists() {
		parts := span.Parts(all, pivots)
		for _, k := range keys {
			kid := route.Kid(k, pivots)
			for i, s := range parts {
				if is := i == kid; has(s, k) != is || kidHas(i, pivots, k) != is {
					t.Fatalf("Kid(%q, %q): %d, but kid %d has it: %v", k, pivots, kid, i, !is)
				}
			}
		}
	}
}

// P8.1, H2: pivots at the ends of prefixes, in them, and between them; and other kinds, which never cross.
func TestCrosses(t *testing.T) {
	for _, c := range []struct {
		m      api.Msg
		pivots []string
		want   bool
	}{
		{move("a/", "b/"), []string{"b/"}, true}, {clone("b/", "a/"), []string{"b/"}, true}, {move("b/", "c/"), []string{"b/"}, false},
		{move("a/", "b/"), nil, false}, {move("a/", "b/"), []string{"a/", "b0"}, false}, {clone("a/", "b/"), []string{"a/\x00"}, true},
		{clone("a/", "b/"), []string{"b.\xff"}, true}, {move("a/", "b/"), []string{"b/\xff"}, true}, {clone("b/", "a/"), []string{"a/\xff"}, true},
		{clone("a", "\xff"), []string{"a"}, false}, {clone("a", "\xff"), []string{"\xff\xff\xff"}, true}, {move("\xff", "a"), []string{"\xff\x00"}, true},
		{drop("", ""), []string{"b"}, false}, {stamp("a", "c"), []string{"b"}, false}, {put("a"), []string{"b"}, false}, {del("b"), []string{"b"}, false},
	} {
		if got := route.Crosses(c.m, c.pivots); got != c.want {
			t.Errorf("Crosses(%#v, %q): %v", c.m, c.pivots, got)
		}
	}
	for _, m := range messages(texts) {
		for _, pivots := range pivotLists() {
			if got := route.Crosses(m, pivots); got != modelCrosses(m, pivots) {
				t.Fatalf("Crosses(%#v, %q): %v", m, pivots, got)
			}
		}
	}
}

// P8.1, H3: parts of each kind of message. A Clone has one where it writes, not where it reads.
func TestPart(t *testing.T) {
	for _, c := range []struct {
		m    api.Msg
		s    api.Span
		want []api.Msg
	}{
		{put("a"), sp("a", "b"), list(put("a"))}, {put("b"), sp("a", "b"), nil}, {del("b"), sp("a", "b\x00"), list(del("b"))}, {del("a"), sp("a\x00", ""), nil},
		{drop("a", "d"), sp("b", "c"), list(drop("b", "c"))}, {drop("b", "c"), sp("a", "d"), list(drop("b", "c"))}, {drop("a", "b"), sp("b", ""), nil},
		{drop("b", ""), sp("a", "b"), nil}, {stamp("", ""), sp("b", ""), list(stamp("b", ""))}, {stamp("a", "c"), sp("b", ""), list(stamp("b", "c"))},
		{move("a/", "c/"), sp("a/x", "a/y"), list(move("a/", "c/"))}, {move("a/", "c/"), sp("c/x", ""), list(move("a/", "c/"))}, {move("a/", "c/"), sp("a0", "c/"), nil},
		{clone("a/", "c/"), sp("a/", "a0"), nil}, {clone("a/", "c/"), sp("", "c/\x00"), list(clone("a/", "c/"))}, {clone("a", "\xff"), sp("\xff\xff", ""), list(clone("a", "\xff"))},
		{put("a"), sp("b", "a"), nil}, {drop("", ""), sp("a", "a"), nil}, {stamp("a", ""), sp("c", "b"), nil}, {move("a/", "b/"), sp("a/x", "a/"), nil},
	} {
		checkList(t, "Part", route.Part(c.m, c.s), c.want)
	}
	for _, m := range messages(texts) {
		for _, s := range append(spans(texts), spans(borders)...) {
			want, _ := modelPart(m, witnesses(list(m), nil, s), func(k string) bool { return has(s, k) })
			checkList(t, "Part", route.Part(m, s), want)
		}
	}
}

// P8.3: the effect of a message that does not cross consists of the effects of its parts on the pairs of each kid.
func TestParts(t *testing.T) {
	ms, lists := messages(texts), pivotLists()
	for i, pairs := range tables() {
		for j, m := range ms {
			pivots := lists[(i*7+j*5)%len(lists)]
			if route.Crosses(m, pivots) {
				continue
			}
			var got []api.Pair
			for _, s := range span.Parts(all, pivots) {
				got = append(got, msg.All(table.Range(pairs, s), route.Part(m, s))...)
			}
			if want := msg.Apply(pairs, m); !slices.Equal(got, want) {
				t.Fatalf("%#v, pivots %q, on %#v: %#v, not %#v", m, pivots, pairs, got, want)
			}
		}
	}
}

// P8.1, H4: the examples of the chapter, and other buffers, written out.
func TestReady(t *testing.T) {
	example := list(move("a/", "c/"), put("a/x"), put("aa"))
	for i, c := range []struct {
		buf        []api.Msg
		pivots     []string
		kid        int
		goes, stay []api.Msg
	}{
		{list(put("a/x"), drop("a/", "c/"), put("a/y")), []string{"b/"}, 0, list(put("a/x"), drop("a/", "b/"), put("a/y")), list(drop("b/", "c/"))},
		{example, []string{"b/"}, 0, list(put("aa")), list(move("a/", "c/"), put("a/x"))},
		{example, []string{"b/"}, 1, nil, example},
		{nil, nil, 0, nil, nil},
		{nil, []string{"b/"}, 1, nil, nil},
		{list(clone("a/", "b/"), drop("", ""), stamp("", "")), nil, 0, list(clone("a/", "b/"), drop("", ""), stamp("", "")), nil},
		{ // what is left of a Drop and of a Stamp: both sides of the kid
			list(drop("a", ""), stamp("", "d")), []string{"b", "c"}, 1,
			list(drop("b", "c"), stamp("b", "c")), list(drop("a", "b"), drop("c", ""), stamp("", "b"), stamp("c", "d")),
		},
		{ // messages for other kids block nothing
			list(put("b"), drop("b", "c"), move("b/", "c/"), put("a")), []string{"b"}, 0,
			list(put("a")), list(put("b"), drop("b", "c"), move("b/", "c/")),
		},
		{ // a message that is blocked stays whole, and blocks all that its part writes, but nothing else
			list(clone("c/", "a/x"), drop("a/", "b/x"), put("a/y"), put("b/"), put("a")), []string{"b/"}, 0,
			list(put("a")), list(clone("c/", "a/x"), drop("a/", "b/x"), put("a/y"), put("b/")),
		},
		{
			list(clone("c/", "a/x"), stamp("", "a/z"), del("a"), put("a0")), []string{"b/"}, 0,
			list(put("a0")), list(clone("c/", "a/x"), stamp("", "a/z"), del("a")),
		},
		{ // what a Clone reads is blocked, too, though another one may read it in the kid that has it all
			list(clone("a/", "c/"), put("a/x"), stamp("a/y", "a/z"), put("a0")), []string{"b/"}, 0,
			list(put("a0")), list(clone("a/", "c/"), put("a/x"), stamp("a/y", "a/z")),
		},
		{list(clone("a/", "c/"), clone("a/", "b/")), []string{"c"}, 0, nil, list(clone("a/", "c/"), clone("a/", "b/"))},
		{ // a Move that lies in the kid stays if something that it reads or writes is blocked, and blocks the rest
			list(clone("c/", "a/"), move("a/", "b/"), put("b/x")), []string{"c"}, 0,
			nil, list(clone("c/", "a/"), move("a/", "b/"), put("b/x")),
		},
		{
			list(clone("c/", "b/"), move("a/", "b/"), put("a/x"), put("a0")), []string{"c"}, 0,
			list(put("a0")), list(clone("c/", "b/"), move("a/", "b/"), put("a/x")),
		},
		{ // messages that are next to what is blocked go
			list(move("a/", "c/"), put("a."), drop("", "a/"), put("a0"), drop("a0", "b")), []string{"b/"}, 0,
			list(put("a."), drop("", "a/"), put("a0"), drop("a0", "b")), list(move("a/", "c/")),
		},
		{ // where Prefix has no upper end
			list(clone("a", "\xff"), put("\xff\xff"), put("\xfe")), []string{"b"}, 1,
			list(put("\xfe")), list(clone("a", "\xff"), put("\xff\xff")),
		},
		{ // the same message twice
			list(put("a"), put("a"), clone("b", "c"), clone("b", "c"), put("b"), put("b")), []string{"c"}, 0,
			list(put("a"), put("a")), list(clone("b", "c"), clone("b", "c"), put("b"), put("b")),
		},
	} {
		goes, stay := route.Ready(c.buf, c.pivots, c.kid)
		if !slices.Equal(goes, c.goes) || !slices.Equal(stay, c.stay) {
			t.Errorf("case %d: %#v, %#v", i, goes, stay)
		}
	}
}

// first returns the part of the first message of a buffer that goes to a kid when it is there alone.
func first(buf []api.Msg, pivots []string, i int) []api.Msg {
	if len(buf) == 0 || isMove(buf[0]) && route.Crosses(buf[0], pivots) {
		return nil
	}
	return route.Part(buf[0], span.Parts(all, pivots)[i])
}

// checkReady compares what is ready for a kid with the model, and checks P8.5, P8.6, and P8.8 for this kid.
func checkReady(t *testing.T, buf []api.Msg, pivots []string, i int) ([]api.Msg, []api.Msg) {
	t.Helper()
	goes, stay := route.Ready(buf, pivots, i)
	what := "Ready for " + strconv.Itoa(i) + " of " + strings.Join(pivots, ", ")
	wantGoes, wantStay := modelReady(buf, pivots, i)
	checkList(t, what, goes, wantGoes)
	checkList(t, what+", what stays", stay, wantStay)
	kid := span.Parts(all, pivots)[i]
	for _, m := range goes {
		for _, s := range slices.Concat(msg.Reads(m), msg.Writes(m)) {
			if !span.Covers(kid, s) {
				t.Fatalf("%s: %#v does not lie in %q", what, m, kid)
			}
		}
	}
	again, left := route.Ready(stay, pivots, i)
	checkList(t, what+" again", again, nil)
	checkList(t, what+" again, what stays", left, stay)
	if part := first(buf, pivots, i); len(part) > 0 && (len(goes) == 0 || goes[0] != part[0]) {
		t.Fatalf("%s: %#v go, without the first one, %#v", what, goes, part)
	}
	return goes, stay
}

// checkEffect checks P8.4 on a table.
func checkEffect(t *testing.T, pairs []api.Pair, buf, goes, stay []api.Msg) {
	t.Helper()
	if got, want := msg.All(msg.All(pairs, goes), stay), msg.All(pairs, buf); !slices.Equal(got, want) {
		t.Fatalf("%#v on %#v: %#v, not %#v", buf, pairs, got, want)
	}
}

// P8.1, P8.4, P8.5, P8.6, P8.8: all buffers of one and two messages for all kids, and all of three for those of some pivots.
func TestSmallBuffers(t *testing.T) {
	ms, lists, full := messages(small), pivotLists(), tables()[1<<len(texts)-1]
	check := func(buf []api.Msg, lists ...[]string) {
		for _, pivots := range lists {
			for i := range len(pivots) + 1 {
				goes, stay := checkReady(t, buf, pivots, i)
				checkEffect(t, full, buf, goes, stay)
			}
		}
	}
	for i, m := range ms {
		check(list(m), lists...)
		for j, n := range ms {
			for k := range 8 {
				check(list(m, n), lists[(i*3+j*5+k*9)%len(lists)])
			}
			for k, o := range ms {
				check(list(m, n, o), lists[(i*3+j*5+k*7)%len(lists)])
			}
		}
	}
}

// frequent returns messages, among which those that are not for all kids are not rare.
func frequent() []api.Msg {
	ms := messages(texts)
	for _, m := range slices.Clone(ms) {
		switch {
		case m.Kind == api.Put || m.Kind == api.Del:
			ms = append(ms, m, m, m)
		case isWide(m) && m.Span.Lo != "" && m.Span.Hi != "":
			ms = append(ms, m)
		}
	}
	return ms
}

// random returns some of the messages in some order.
func random(r *rand.Rand, ms []api.Msg, most int) []api.Msg {
	var l []api.Msg
	for range r.Intn(most + 1) {
		l = append(l, ms[r.Intn(len(ms))])
	}
	return l
}

// P8.1, P8.4, P8.5, P8.6, P8.8: longer buffers, on some tables.
func TestLongerBuffers(t *testing.T) {
	r := rand.New(rand.NewSource(8))
	ms, lists, all := frequent(), pivotLists(), tables()
	for range 8000 {
		buf, pivots := random(r, ms, 14), lists[r.Intn(len(lists))]
		for i := range len(pivots) + 1 {
			goes, stay := checkReady(t, buf, pivots, i)
			checkEffect(t, all[r.Intn(len(all))], buf, goes, stay)
			checkEffect(t, all[len(all)-1], buf, goes, stay)
		}
	}
}

// P8.4: what is ready is brought to one kid after the other, until nothing is ready for any.
func TestOneAfterTheOther(t *testing.T) {
	r := rand.New(rand.NewSource(84))
	ms, lists, all := frequent(), pivotLists(), tables()
	for range 2000 {
		buf, pivots, pairs := random(r, ms, 14), lists[r.Intn(len(lists))], all[r.Intn(len(all))]
		want := msg.All(pairs, buf)
		for _, i := range r.Perm(len(pivots) + 1) {
			goes, stay := route.Ready(buf, pivots, i)
			pairs, buf = msg.All(pairs, goes), stay
		}
		if got := msg.All(pairs, buf); !slices.Equal(got, want) {
			t.Fatalf("what stays, %#v, on %#v: %#v, not %#v", buf, pairs, got, want)
		}
		for i := range len(pivots) + 1 {
			goes, _ := route.Ready(buf, pivots, i)
			checkList(t, "Ready in the end", goes, nil)
		}
		if len(buf) > 0 && !route.Crosses(buf[0], pivots) {
			t.Fatalf("%#v stays, but does not cross %q", buf[0], pivots)
		}
	}
}

// P8.7: if no message crosses, all of it that belongs to the kid goes, and nothing of it stays.
func TestFreeWay(t *testing.T) {
	r := rand.New(rand.NewSource(87))
	ms, lists := frequent(), pivotLists()
	for range 4000 {
		pivots := lists[r.Intn(len(lists))]
		buf := slices.DeleteFunc(random(r, ms, 20), func(m api.Msg) bool { return route.Crosses(m, pivots) })
		for i, s := range span.Parts(all, pivots) {
			var want []api.Msg
			for _, m := range buf {
				want = append(want, route.Part(m, s)...)
			}
			goes, stay := route.Ready(buf, pivots, i)
			checkList(t, "Ready", goes, want)
			for _, m := range stay {
				checkList(t, "Part of what stays", route.Part(m, s), nil)
			}
		}
	}
}

// P8.8: the first message, or a part of it, goes to some kid, unless it crosses; then it stays.
func TestFirst(t *testing.T) {
	r := rand.New(rand.NewSource(88))
	ms, lists := frequent(), pivotLists()
	for range 4000 {
		buf, pivots := append(list(ms[r.Intn(len(ms))]), random(r, ms, 9)...), lists[r.Intn(len(lists))]
		left, took := buf, 0
		for i := range len(pivots) + 1 {
			goes, stay := route.Ready(buf, pivots, i)
			if part := first(buf, pivots, i); len(part) > 0 && len(goes) > 0 && goes[0] == part[0] {
				took++
			}
			if route.Crosses(buf[0], pivots) && stay[0] != buf[0] {
				t.Fatalf("%#v crosses %q, but kid %d gets it", buf[0], pivots, i)
			}
			_, left = route.Ready(left, pivots, i)
		}
		if crosses := route.Crosses(buf[0], pivots); crosses != (took == 0) || crosses != (len(left) > 0 && left[0] == buf[0]) {
			t.Fatalf("%#v, pivots %q: %d kids get the first message", buf, pivots, took)
		}
	}
}

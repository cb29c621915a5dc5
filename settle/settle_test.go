package settle_test

import (
	"fmt"
	"math/rand"
	"slices"
	"testing"

	"downspout/api"
	"downspout/msg"
	"downspout/route"
	"downspout/settle"
)

// P9.1, I1: the examples of the chapter, and other messages, written out.
func TestList(t *testing.T) {
	pairs := []api.Pair{pair("a/", "d", 0), pair("a/x", "1", 3), pair("a/x\x00", "", 1000000000), pair("a/\xff", "2", 4)}
	for i, c := range []struct {
		m      api.Msg
		source []api.Pair
		want   []api.Msg
	}{
		{move("a/", "b/"), pairs[1:2], list(drop("b/", "b0"), put("b/x", "1", 3), drop("a/", "a0"))},
		{clone("a/", "b/"), nil, list(drop("b/", "b0"))},
		{move("a/", "b/"), []api.Pair{}, list(drop("b/", "b0"), drop("a/", "a0"))},
		{clone("a/", "b/"), pairs[1:2], list(drop("b/", "b0"), put("b/x", "1", 3))},
		{move("a/", "b/"), pairs, list(drop("b/", "b0"), put("b/", "d", 0), put("b/x", "1", 3), put("b/x\x00", "", 1000000000), put("b/\xff", "2", 4), drop("a/", "a0"))},
		{clone("a", "\xff"), pairs[:2], list(drop("\xff", ""), put("\xff/", "d", 0), put("\xff/x", "1", 3))},
		{move("\xff", "a/b/"), []api.Pair{pair("\xff", "1", 2), pair("\xff\xff", "3", 4)}, list(drop("a/b/", "a/b0"), put("a/b/", "1", 2), put("a/b/\xff", "3", 4), drop("\xff", ""))},
		{move("a/x\xff", "b"), []api.Pair{pair("a/x\xffa/x\xff", "1", 2)}, list(drop("b", "c"), put("ba/x\xff", "1", 2), drop("a/x\xff", "a/y"))},
		{put("a/x", "1", 3), pairs, list(put("a/x", "1", 3))},
		{del("a/x"), pairs, list(del("a/x"))},
		{drop("a/", "a0"), pairs, list(drop("a/", "a0"))},
		{stamp("", "", 7), pairs, list(stamp("", "", 7))},
	} {
		checkList(t, fmt.Sprint("case ", i), settle.List(c.m, c.source), c.want)
	}
}

// P9.1, P9.2, P9.6: all Moves and Clones between the texts, on all tables with some of the texts.
func TestEffect(t *testing.T) {
	all := tables()
	for _, m := range moves() {
		for _, pairs := range all {
			source := sourceOf(m, pairs)
			l := settle.List(m, source)
			what := fmt.Sprintf("%#v on %#v", m, pairs)
			checkList(t, what, l, modelSettled(m, source))
			checkTable(t, what, msg.All(pairs, l), msg.Apply(pairs, m))
			more := len(l) - len(source)
			if m.Kind == api.Move && more != 2 || m.Kind == api.Clone && more != 1 {
				t.Fatalf("%s: %d messages more than pairs", what, more)
			}
		}
	}
}

// P9.3: settled messages are valid, and cross no pivots, whatever the message itself does.
func TestSettledCrossNothing(t *testing.T) {
	lists, full := pivotLists(), tables()[1<<len(texts)-1]
	for _, m := range slices.Concat(moves(), others()) {
		crossed := false
		for _, n := range settle.List(m, sourceOf(m, full)) {
			if !msg.Valid(n) || isMove(n) {
				t.Fatalf("%#v settles to %#v", m, n)
			}
			for _, pivots := range lists {
				crossed = crossed || route.Crosses(m, pivots)
				if _, is := settle.First(list(n), pivots); is || route.Crosses(n, pivots) {
					t.Fatalf("%#v, of %#v, crosses %q", n, m, pivots)
				}
			}
		}
		if crossed != isMove(m) {
			t.Fatalf("%#v crosses some pivots: %v", m, crossed)
		}
	}
}

// P9.1, I3: the first message is turned, and the others stay as they are, even if they are the same.
func TestTurn(t *testing.T) {
	pairs := []api.Pair{pair("a/x", "1", 3), pair("a/y", "2", 4)}
	m, c := move("a/", "b/"), clone("a/", "b/")
	for i, k := range []struct {
		buf    []api.Msg
		source []api.Pair
		want   []api.Msg
	}{
		{list(m), pairs, list(drop("b/", "b0"), put("b/x", "1", 3), put("b/y", "2", 4), drop("a/", "a0"))},
		{list(m, put("b/x", "9", 9), m, c), pairs[:1], list(drop("b/", "b0"), put("b/x", "1", 3), drop("a/", "a0"), put("b/x", "9", 9), m, c)},
		{list(c, c, drop("", ""), m), pairs[1:], list(drop("b/", "b0"), put("b/y", "2", 4), c, drop("", ""), m)},
		{list(c), nil, list(drop("b/", "b0"))},
		{list(m, del("a/x")), nil, list(drop("b/", "b0"), drop("a/", "a0"), del("a/x"))},
	} {
		got, err := settle.Turn(k.buf, k.source)
		checkList(t, fmt.Sprint("case ", i), got, k.want)
		if err != api.OK {
			t.Errorf("case %d: %d", i, err)
		}
	}
}

// P9.1, P9.7, P1: without messages, and with a first one of another kind, whatever follows it, nothing is turned.
func TestNotTurned(t *testing.T) {
	full := tables()[1<<len(texts)-1]
	check := func(buf []api.Msg, source []api.Pair) {
		if got, err := settle.Turn(buf, source); err != api.ErrMsg || len(got) != 0 {
			t.Fatalf("%#v: %#v, %d", buf, got, err)
		}
	}
	check(nil, nil)
	check(list(), full)
	for _, m := range others() {
		check(list(m), nil)
		check(list(m, move("a/", "b/"), clone("b/", "a/")), full)
		checkList(t, "List", settle.List(m, full), list(m))
		checkList(t, "List without pairs", settle.List(m, nil), list(m))
	}
}

// random returns some of the messages in some order.
func random(r *rand.Rand, ms []api.Msg, most int) []api.Msg {
	var l []api.Msg
	for range r.Intn(most + 1) {
		l = append(l, ms[r.Intn(len(ms))])
	}
	return l
}

// P9.4: the first message of a buffer is turned, on some tables.
func TestTurningKeepsTheEffect(t *testing.T) {
	r := rand.New(rand.NewSource(94))
	firsts, all := moves(), tables()
	ms := slices.Concat(others(), firsts)
	for range 30000 {
		m, pairs := firsts[r.Intn(len(firsts))], all[r.Intn(len(all))]
		rest := random(r, ms, 5)
		buf, source := append(list(m), rest...), sourceOf(m, pairs)
		got, err := settle.Turn(buf, source)
		what := fmt.Sprintf("%#v on %#v", buf, pairs)
		if err != api.OK {
			t.Fatalf("%s: %d", what, err)
		}
		checkList(t, what, got, append(modelSettled(m, source), rest...))
		checkTable(t, what, msg.All(pairs, got), msg.All(pairs, buf))
	}
}

// P9.4: a buffer whose first message is turned, with its source at that time, whenever it is a Move or Clone, and then has its effect.
func TestAllTurned(t *testing.T) {
	r := rand.New(rand.NewSource(95))
	ms, all := moves(), tables()
	for range 3000 {
		pairs, buf := all[r.Intn(len(all))], random(r, ms, 6)
		want := msg.All(pairs, buf)
		for len(buf) > 0 {
			if isMove(buf[0]) {
				buf, _ = settle.Turn(buf, sourceOf(buf[0], pairs))
			}
			if isMove(buf[0]) {
				t.Fatalf("%#v is not turned", buf[0])
			}
			pairs, buf = msg.Apply(pairs, buf[0]), buf[1:]
		}
		checkTable(t, "all turned", pairs, want)
	}
}

// P9.1, I2: at the ends of buffers, in the middle, and without pivots.
func TestFirst(t *testing.T) {
	near, far := move("a/", "b/"), clone("a/", "x/")
	for i, c := range []struct {
		buf    []api.Msg
		pivots []string
		at     int
		is     bool
	}{
		{nil, nil, 0, false}, {nil, []string{"c"}, 0, false}, {list(near, far), nil, 0, false},
		{list(far, near), []string{"c"}, 0, true}, {list(near, far), []string{"c"}, 1, true}, {list(near, far, far), []string{"b/"}, 0, true},
		{list(near, near, put("a", "", 0), drop("", ""), far), []string{"c"}, 4, true}, {list(near, near, stamp("", "", 1)), []string{"c"}, 0, false},
		{list(drop("a", "z"), stamp("a", "z", 1), del("c"), put("c", "1", 1)), []string{"c"}, 0, false},
		{list(near, far), []string{"a/", "x0"}, 0, false}, {list(near, far), []string{"a/", "x/"}, 1, true}, {list(near, far), []string{"a/\x00"}, 0, true},
	} {
		if at, is := settle.First(c.buf, c.pivots); at != c.at || is != c.is {
			t.Errorf("case %d: %d, %v", i, at, is)
		}
	}
}

// P9.1, P9.5: before the first message that crosses, none does; if there is none, no message crosses.
func TestBeforeTheFirst(t *testing.T) {
	r := rand.New(rand.NewSource(96))
	ms, lists := slices.Concat(others(), moves()), pivotLists()
	for range 30000 {
		buf, pivots := random(r, ms, 8), lists[r.Intn(len(lists))]
		at, is := settle.First(buf, pivots)
		before := buf
		if is {
			before = buf[:at]
		}
		for _, m := range before {
			if route.Crosses(m, pivots) {
				t.Fatalf("%#v, pivots %q: %d, %v, but %#v crosses", buf, pivots, at, is, m)
			}
		}
		if is && !route.Crosses(buf[at], pivots) || !is && at != 0 {
			t.Fatalf("%#v, pivots %q: %d, %v", buf, pivots, at, is)
		}
	}
}

package msg_test

import (
	"math/rand"
	"slices"
	"strings"
	"testing"

	"downspout/api"
	"downspout/msg"
	"downspout/span"
	"downspout/table"
)

// P5.1: the examples of the chapter.
func TestExamples(t *testing.T) {
	l := []api.Pair{pair("a/x", "1", 5), pair("a/y", "2", 5), pair("b/x", "3", 5)}
	for _, c := range []struct {
		m             api.Msg
		want          []api.Pair
		reads, writes []api.Span
	}{
		{put("a/z", "4", 6), []api.Pair{l[0], l[1], pair("a/z", "4", 6), l[2]}, nil, []api.Span{{Lo: "a/z", Hi: "a/z\x00"}}},
		{drop("a/", "a/y"), l[1:], nil, []api.Span{{Lo: "a/", Hi: "a/y"}}},
		{move("a/", "b/"), []api.Pair{pair("b/x", "1", 5), pair("b/y", "2", 5)}, []api.Span{{Lo: "a/", Hi: "a0"}}, []api.Span{{Lo: "a/", Hi: "a0"}, {Lo: "b/", Hi: "b0"}}},
		{clone("a/", "b/"), []api.Pair{l[0], l[1], pair("b/x", "1", 5), pair("b/y", "2", 5)}, []api.Span{{Lo: "a/", Hi: "a0"}}, []api.Span{{Lo: "b/", Hi: "b0"}}},
		{stamp("b", "", 7), []api.Pair{l[0], l[1], pair("b/x", "3", 7)}, []api.Span{{Lo: "b"}}, []api.Span{{Lo: "b"}}},
	} {
		check(t, "Apply", msg.Apply(l, c.m), c.want)
		checkSpans(t, "Reads", c.m, msg.Reads(c.m), c.reads)
		checkSpans(t, "Writes", c.m, msg.Writes(c.m), c.writes)
	}
}

// modelValid reports whether a message is valid, by the table of the chapter.
func modelValid(m api.Msg) bool {
	key := 1 <= len(m.Key) && len(m.Key) <= 65535
	number := 0 <= m.N && m.N <= 1000000000
	spans := (m.Span.Hi == "" || m.Span.Lo < m.Span.Hi) && len(m.Span.Lo) <= 65535 && len(m.Span.Hi) <= 65535
	paths := 1 <= len(m.From) && len(m.From) <= 200 && 1 <= len(m.To) && len(m.To) <= 200
	noKey, noValue, noNumber := m.Key == "", m.Value == "", m.N == 0
	noSpan, noPaths := m.Span.Lo == "" && m.Span.Hi == "", m.From == "" && m.To == ""
	switch m.Kind {
	case 1:
		return key && len(m.Value) <= 64 && number && noSpan && noPaths
	case 2:
		return key && noValue && noNumber && noSpan && noPaths
	case 3:
		return spans && noKey && noValue && noNumber && noPaths
	case 4, 5:
		apart := !strings.HasPrefix(m.From, m.To) && !strings.HasPrefix(m.To, m.From)
		return paths && apart && noKey && noValue && noNumber && noSpan
	case 6:
		return spans && number && noKey && noValue && noPaths
	}
	return false
}

func long(n int) string { return strings.Repeat("k", n) }

// P5.1, E1 and E5: a message is valid exactly if its fields are in their ranges, and those that its kind has not are zero; only then it has bytes.
func TestValid(t *testing.T) {
	spans := []api.Span{{}, {Lo: "a"}, {Hi: "a"}, {Lo: "a", Hi: "b"}, {Lo: "a", Hi: "a"}, {Lo: "b", Hi: "a"}, {Lo: long(65535)}, {Hi: long(65536)}, {Lo: "a", Hi: long(65535)}, {Lo: long(65536)}}
	paths := []string{"", "a", "ab", "b", long(200), long(201)}
	count := 0
	for kind := -1; kind <= 8; kind++ {
		for _, s := range spans {
			for _, from := range paths {
				for _, to := range paths {
					for _, m := range withKeys(api.Msg{Kind: kind, Span: s, From: from, To: to}) {
						want := modelValid(m)
						if msg.Valid(m) != want || (len(msg.Bytes(m)) > 0) != want {
							t.Fatalf("Valid(%#v): %v", m, !want)
						}
						if want {
							count++
						}
					}
				}
			}
		}
	}
	// 18 Puts, 2 Dels, 6 Drops, 10 Moves, 10 Clones and 18 Stamps.
	if count != 64 {
		t.Errorf("%d messages are valid", count)
	}
}

// withKeys returns a message with keys, values and numbers, in their ranges and beyond.
func withKeys(m api.Msg) []api.Msg {
	var l []api.Msg
	for _, k := range []string{"", "k", long(65535), long(65536)} {
		for _, v := range []string{"", "v", long(64), long(65)} {
			for _, n := range []int{-1 << 63, -1, 0, 1, 1000000000, 1000000001, 1 << 32, 1<<63 - 1} {
				m.Key, m.Value, m.N = k, v, n
				l = append(l, m)
			}
		}
	}
	return l
}

// P5.1, E1: no other kinds, even those that have the same last byte.
func TestKinds(t *testing.T) {
	for _, m := range messages(few) {
		if !msg.Valid(m) {
			t.Fatalf("Valid(%#v): false", m)
		}
		for _, more := range []int{256, -256, 1 << 32, -1 << 63} {
			other := m
			other.Kind += more
			if msg.Valid(other) || len(msg.Bytes(other)) > 0 {
				t.Fatalf("Valid(%#v): true", other)
			}
		}
	}
}

// P5.1, E2: effects on all tables. They are tables, too.
func TestEffects(t *testing.T) {
	for _, l := range tables() {
		before := modelOf(l)
		for _, m := range messages(many) {
			got := msg.Apply(l, m)
			check(t, "Apply", got, before.after(m).list())
			if !table.Valid(got) {
				t.Fatalf("Apply(%#v, %#v): %#v", l, m, got)
			}
		}
	}
}

// P5.1, E2: a Put replaces the stamp and the value, even by the same ones or by nothing.
func TestPuts(t *testing.T) {
	l := []api.Pair{pair("a", "v", 5), pair("b", "", 0)}
	check(t, "Put of the same", msg.Apply(l, put("a", "v", 5)), l)
	check(t, "Put of nothing", msg.Apply(l, put("a", "", 0)), []api.Pair{pair("a", "", 0), pair("b", "", 0)})
	check(t, "Put with another stamp", msg.Apply(l, put("b", "", 1000000000)), []api.Pair{pair("a", "v", 5), pair("b", "", 1000000000)})
}

// P5.1, E2: all messages, one after the other.
func TestAll(t *testing.T) {
	r := rand.New(rand.NewSource(5))
	all, ms := tables(), messages(many)
	for range 3000 {
		l := all[r.Intn(len(all))]
		var some []api.Msg
		want := modelOf(l)
		for range r.Intn(12) {
			m := ms[r.Intn(len(ms))]
			some = append(some, m)
			want = want.after(m)
		}
		check(t, "All", msg.All(l, some), want.list())
	}
	for _, l := range all {
		check(t, "All of none", msg.All(l, nil), l)
	}
}

// P5.1, E3: what messages read, write and kill.
func TestSpans(t *testing.T) {
	ms := append(messages(many), put(long(65535), "", 0), drop("a", long(65535)), move("a\xff", "\xff\xff"), clone("\xff", "a\xff\xff"))
	for _, m := range ms {
		reads, writes, kills := modelSpans(m)
		checkSpans(t, "Reads", m, msg.Reads(m), reads)
		checkSpans(t, "Writes", m, msg.Writes(m), writes)
		checkSpans(t, "Kills", m, msg.Kills(m), kills)
	}
	m := move("a\xff", "\xff\xff")
	checkSpans(t, "Writes", m, msg.Writes(m), []api.Span{{Lo: "a\xff", Hi: "b"}, {Lo: "\xff\xff"}})
}

// P5.1, E4: which messages are free; it does not matter which one comes first.
func TestFree(t *testing.T) {
	free := 0
	ms := messages(few)
	for _, m := range ms {
		for _, n := range ms {
			got := msg.Free(m, n)
			if got != modelFree(m, n) || got != msg.Free(n, m) {
				t.Fatalf("Free(%#v, %#v): %v", m, n, got)
			}
			if got {
				free++
			}
		}
	}
	if free == 0 || free == len(ms)*len(ms) {
		t.Errorf("%d pairs are free", free)
	}
	for _, c := range []struct {
		m, n api.Msg
		want bool
	}{
		{put("a", "", 0), put("a\x00", "", 0), true}, {put("a", "", 0), put("a", "", 0), false}, {del("a"), drop("a\x00", ""), true},
		{del("a"), drop("", "a"), true}, {del("b"), drop("a", "b\x00"), false}, {clone("a", "b"), clone("a", "c"), true},
		{clone("a", "b"), clone("c", "a/x"), false}, {move("a", "b"), clone("a", "c"), false}, {move("a", "b"), move("c", "d"), true},
		{stamp("a", "b", 1), clone("a", "c"), false}, {stamp("a", "b", 1), stamp("b", "c", 1), true}, {stamp("a", "b", 1), stamp("a", "b", 1), false},
		{clone("a", "b"), put("c", "", 0), true}, {put("\xff\xff\xff", "", 0), drop("b", ""), false},
	} {
		if msg.Free(c.m, c.n) != c.want || msg.Free(c.n, c.m) != c.want {
			t.Errorf("Free(%#v, %#v): %v", c.m, c.n, !c.want)
		}
	}
}

// which returns the pairs for whose keys a condition holds.
func which(l []api.Pair, holds func(k string) bool) []api.Pair {
	return slices.DeleteFunc(slices.Clone(l), func(p api.Pair) bool { return !holds(p.Key) })
}

// mix returns the pairs of l for whose keys a condition holds, and those of another table for whose keys it does not.
// The latter get another value, so that they differ even if both tables have their keys.
func mix(l, other []api.Pair, holds func(k string) bool) []api.Pair {
	mixed := modelOf(which(l, holds))
	for _, p := range which(other, func(k string) bool { return !holds(k) }) {
		mixed[p.Key] = pair(p.Key, "other", 0)
	}
	return mixed.list()
}

// checkPlaces checks where a message changes something, and on what that depends.
func checkPlaces(t *testing.T, l, other []api.Pair, m api.Msg) {
	t.Helper()
	read := func(k string) bool { return listHas(msg.Reads(m), k) }
	written := func(k string) bool { return listHas(msg.Writes(m), k) }
	unwritten := func(k string) bool { return !written(k) }
	matters := func(k string) bool { return read(k) || !listHas(msg.Kills(m), k) }
	after := msg.Apply(l, m)
	check(t, "P5.2", which(after, unwritten), which(l, unwritten))
	check(t, "P5.3", which(msg.Apply(mix(l, other, read), m), written), which(after, written))
	check(t, "P5.4", msg.Apply(mix(l, other, matters), m), after)
}

// P5.2: outside of what a message writes, nothing changes. P5.3: what is there afterwards where it writes depends on what it reads.
// P5.4: what was there where it kills does not matter, unless it reads it.
func TestPlaces(t *testing.T) {
	all := tables()
	for i, l := range all {
		for j, m := range messages(many) {
			if (i+j)%3 == 0 || i == len(all)-1 {
				checkPlaces(t, l, all[(i*37+j*11)%len(all)], m)
				checkPlaces(t, l, nil, m)
			}
		}
	}
}

// P5.5: messages that are free may be exchanged.
func TestExchange(t *testing.T) {
	all, ms := tables(), messages(few)
	for i, m := range ms {
		for j, n := range ms {
			if !msg.Free(m, n) {
				continue
			}
			for _, l := range [][]api.Pair{all[len(all)-1], all[(i*len(ms)+j)%len(all)]} {
				check(t, "P5.5", both(l, n, m), both(l, m, n))
			}
		}
	}
}

// checkMove checks a Move on a table. P5.7: after a Move that comes twice, nothing is left in either place.
func checkMove(t *testing.T, l []api.Pair, from, to string) {
	t.Helper()
	there, back := move(from, to), move(to, from)
	before, after := span.Prefix(from), span.Prefix(to)
	once := msg.Apply(l, there)
	check(t, "a Clone and a Drop", both(l, clone(from, to), drop(before.Lo, before.Hi)), once)
	check(t, "there and back", both(l, there, back), table.Drop(l, after))
	check(t, "there and back in the old place", table.Range(both(l, there, back), before), table.Range(l, before))
	check(t, "the new place", table.Range(once, after), table.Moved(l, from, to))
	check(t, "a Move twice", both(l, there, there), table.Drop(table.Drop(l, before), after))
}

// P5.6: a Move is a Clone, after which what was moved is dropped; moving back restores it.
func TestMoves(t *testing.T) {
	for _, l := range tables() {
		for _, m := range messages(many) {
			if m.Kind == api.Move {
				checkMove(t, l, m.From, m.To)
			}
		}
	}
}

// P5.6: from and to the longest texts, keys get longer than those of messages.
func TestLongMoves(t *testing.T) {
	from, to := strings.Repeat("a", 200), strings.Repeat("b", 200)
	l := []api.Pair{pair(from[:199], "0", 1), pair(from, "1", 2), pair(from+"/", "2", 3), pair("b", "3", 4), pair(to+"/x", "4", 5)}
	checkMove(t, l, from, to)
	checkMove(t, l, "b", from)
	checkMove(t, l, "a", to)
	key := "a" + long(65534)
	check(t, "a long key", msg.Apply([]api.Pair{pair(key, "v", 1)}, move("a", to)), []api.Pair{pair(to+long(65534), "v", 1)})
}

// P5.7: all messages but Move do the same if they come twice.
func TestTwice(t *testing.T) {
	for _, l := range tables() {
		for _, m := range messages(many) {
			if m.Kind != api.Move {
				check(t, "P5.7", both(l, m, m), msg.Apply(l, m))
			}
		}
	}
}

package msg_test

import (
	"bytes"
	"slices"
	"strconv"
	"testing"

	"downspout/api"
	"downspout/msg"
)

// oddMessages are messages that are not valid, of all kinds and of none.
func oddMessages() []api.Msg {
	l := []api.Msg{{}}
	for kind := -1; kind <= 8; kind++ {
		m := api.Msg{Kind: kind}
		l = append(l, m)
		m.Key, m.Value, m.N, m.From, m.To = "a", long(100), -1, "a", "a/"
		m.Span = api.Span{Lo: "b", Hi: "a"}
		l = append(l, m)
		m.To, m.From, m.Key, m.N = "a", "a/", "", 1<<63-1
		l = append(l, m)
		m.To, m.From, m.Key = "", "", long(70000)
		l = append(l, m)
	}
	return slices.DeleteFunc(l, msg.Valid)
}

// P1: messages that are not valid, and lists that are no tables, are accepted, whatever is returned for them.
func TestOddArguments(t *testing.T) {
	odd := oddMessages()
	noTables := [][]api.Pair{nil, full(), {pair("b", "1", 0), pair("a", "2", 0)}, {pair("a/", "1", 0), pair("a/", "2", 0), pair("", "3", 0)}}
	for _, m := range append(odd, messages(few)...) {
		for _, l := range noTables {
			msg.Apply(l, m)
		}
	}
	for _, m := range odd {
		msg.All(full(), []api.Msg{m, m})
		msg.Reads(m)
		msg.Writes(m)
		msg.Kills(m)
		for _, n := range append(odd, messages(few)...) {
			msg.Free(m, n)
			msg.Free(n, m)
		}
		if b := msg.Bytes(m); len(b) != 0 {
			t.Errorf("Bytes(%#v): %v", m, b)
		}
	}
}

// P1: large tables, and long lists of messages.
func TestLarge(t *testing.T) {
	const n = 20000
	var l []api.Pair
	for i := range n {
		l = append(l, pair("a/"+strconv.Itoa(n+i), "v", i))
	}
	moved := msg.Apply(l, move("a/", "b/"))
	if len(moved) != n || moved[n-1] != pair("b/"+strconv.Itoa(2*n-1), "v", n-1) {
		t.Errorf("Move: %d pairs", len(moved))
	}
	check(t, "back", msg.Apply(moved, move("b/", "a/")), l)
	if got := msg.Apply(l, clone("a/", "b/")); len(got) != 2*n || !slices.Equal(got[:n], l) || !slices.Equal(got[n:], moved) {
		t.Errorf("Clone: %d pairs", len(got))
	}
	var ms []api.Msg
	var b []byte
	for i := range 1000 {
		ms = append(ms, put(strconv.Itoa(i), "v", i), stamp("", "", i), del(strconv.Itoa(i-1)))
	}
	check(t, "All", msg.All(nil, ms), []api.Pair{pair("999", "v", 999)})
	for _, m := range ms {
		b = append(b, msg.Bytes(m)...)
	}
	for i := 0; len(b) > 0; i++ {
		m, size, e := msg.Parse(b)
		if m != ms[i] || e != api.OK {
			t.Fatalf("message %d: %#v, %d", i, m, e)
		}
		b = b[size:]
	}
}

// P2: results are the same again, and changes of a result change neither another result nor an argument.
func TestSpansStay(t *testing.T) {
	for _, m := range messages(few) {
		for i, spans := range []func(api.Msg) []api.Span{msg.Reads, msg.Writes, msg.Kills} {
			first := spans(m)
			want := slices.Clone(first)
			for j := range first {
				first[j] = api.Span{Lo: "changed"}
			}
			if again := spans(m); !slices.Equal(again, want) {
				t.Fatalf("spans %d of %#v: %q, then %q", i, m, want, again)
			}
		}
	}
}

// roomy returns a copy of a table that has room for more pairs behind it, and all of that room.
func roomy(l []api.Pair) ([]api.Pair, []api.Pair) {
	room := append(slices.Clone(l), slices.Repeat([]api.Pair{pair("room", "", 0)}, 20)...)
	return room[:len(l)], room
}

// P2 and E6: neither the functions nor changes of their results modify a table or a list, or what lies behind it.
func TestTablesStay(t *testing.T) {
	ms := messages(few)
	list := append(slices.Clone(ms[:9]), ms...)[:9]
	behind := slices.Clone(list[:cap(list)])
	for _, x := range tables() {
		l, room := roomy(x)
		want := slices.Clone(room)
		calls := []func() []api.Pair{
			func() []api.Pair { return msg.All(l, nil) },
			func() []api.Pair { return msg.All(l, list) },
		}
		for _, m := range ms {
			calls = append(calls, func() []api.Pair { return msg.Apply(l, m) })
		}
		for i, call := range calls {
			first := call()
			result := slices.Clone(first)
			for j := range first {
				first[j] = pair("changed", "changed", 0)
			}
			_ = append(first, pair("added", "added", 0))
			check(t, "call "+strconv.Itoa(i)+" again", call(), result)
			if !slices.Equal(room, want) || !slices.Equal(list[:cap(list)], behind) {
				t.Fatalf("call %d changes its arguments", i)
			}
		}
	}
}

// P2 and E6: bytes are neither modified nor kept.
func TestBytesStay(t *testing.T) {
	for _, m := range messages(few) {
		b := append(msg.Bytes(m), "behind"...)
		want := slices.Clone(b)
		got, n, _ := msg.Parse(b[:len(b)-6])
		if !bytes.Equal(b, want) {
			t.Fatalf("Parse(%v) changes it to %v", want, b)
		}
		for i := range b {
			b[i] = 'x'
		}
		if got != m || !bytes.Equal(msg.Bytes(m), want[:n]) {
			t.Fatalf("a change of the bytes changes %#v to %#v", m, got)
		}
	}
}

package fold_test

import (
	"slices"
	"strconv"
	"strings"
	"testing"

	"downspout/api"
	"downspout/fold"
	"downspout/span"
)

// P1: messages that are not valid are accepted, whatever is returned for them.
func TestOddMessages(t *testing.T) {
	var odd []api.Msg
	for kind := -1; kind <= 8; kind++ {
		for _, s := range []api.Span{{}, sp("b", "a"), sp("a", "a"), sp("a/x", "a/")} {
			for _, to := range []string{"", "a/", "a/x", "b/"} {
				odd = append(odd, api.Msg{Kind: kind, Key: to, N: -1, Span: s, From: "a/", To: to})
				odd = append(odd, api.Msg{Kind: kind, Value: strings.Repeat("v", 100), Span: s, From: to})
			}
		}
	}
	dead := append(spans(small), sp("b", "a"), sp("a/", "a/"))
	for i, m := range odd {
		for j, n := range slices.Concat(odd, messages(small)) {
			s := dead[(i+j)%len(dead)]
			fold.Live([]api.Msg{n, m, n}, []api.Span{s})
			fold.Merge([]api.Msg{m}, []api.Msg{n, m})
		}
	}
}

// P1: long lists, in which dead spans grow, and are cut.
func TestLongLists(t *testing.T) {
	const n = 30000
	key := func(i int) string { return strconv.Itoa(10*n + i) }
	var puts, stamps []api.Msg
	var dead []api.Span
	for i := range n {
		puts = append(puts, put(key(i*7919%n), "v"))
		stamps = append(stamps, stamp(span.One(key(2*i)), 1))
		dead = append(dead, span.One(key(i)))
	}
	l, end := fold.Live(slices.Concat(puts, puts), nil)
	if !slices.Equal(l, puts) || !slices.Equal(end, dead) {
		t.Errorf("%d Puts: %d messages, %d spans", 2*n, len(l), len(end))
	}
	l, end = fold.Live(stamps, []api.Span{sp(key(0), key(2*n))})
	if len(l) != 0 || len(end) != 1 {
		t.Errorf("Stamps of dead keys: %d messages, %d spans", len(l), len(end))
	}
	m := stamp(all, 1)
	l, end = fold.Live([]api.Msg{m}, dead)
	if !slices.Equal(l, []api.Msg{m}) || len(end) != 0 {
		t.Errorf("a Stamp of all keys: %d messages, %d spans", len(l), len(end))
	}
	long := strings.Repeat("\xff", api.MaxKey)
	checkList(t, "Reduce", nil, fold.Reduce([]api.Msg{put(long, "1"), stamp(sp(long, ""), 1), drop(sp(long[1:], ""))}), []api.Msg{drop(sp(long[1:], ""))})
}

// roomy returns a list that has other elements behind it, and all of them.
func roomy[E any](l []E, behind E) ([]E, []E) {
	room := append(slices.Clone(l), slices.Repeat([]E{behind}, 20)...)
	return room[:len(l)], room
}

// P2 and F4: results are the same again, and neither the functions nor changes of their results modify an argument, or what lies behind it.
func TestArgumentsStay(t *testing.T) {
	ms, ss := messages(small), spans(small)
	for i := range ms {
		l, lRoom := roomy([]api.Msg{ms[i], ms[i*3%len(ms)], ms[i*5%len(ms)]}, put("room", ""))
		k, kRoom := roomy([]api.Msg{ms[i*7%len(ms)], ms[i]}, put("room", ""))
		dead, deadRoom := roomy([]api.Span{ss[i%len(ss)], ss[i*3%len(ss)]}, sp("room", "s"))
		norm, normRoom := roomy([]api.Span{sp("0", "1"), sp("a/x", "a/x\x00"), sp("c", "")}, sp("room", "s"))
		wantL, wantK, wantDead, wantNorm := slices.Clone(lRoom), slices.Clone(kRoom), slices.Clone(deadRoom), slices.Clone(normRoom)
		for n, call := range []func() ([]api.Msg, []api.Span){
			func() ([]api.Msg, []api.Span) { return fold.Live(l, dead) },
			func() ([]api.Msg, []api.Span) { return fold.Live(l, norm) },
			func() ([]api.Msg, []api.Span) { return fold.Live(nil, norm) },
			func() ([]api.Msg, []api.Span) { return fold.Reduce(l), nil },
			func() ([]api.Msg, []api.Span) { return fold.Merge(l, k), nil },
			func() ([]api.Msg, []api.Span) { return fold.Merge(l, nil), nil },
		} {
			stay, end := call()
			wantStay, wantEnd := slices.Clone(stay), slices.Clone(end)
			for j := range stay {
				stay[j] = put("changed", "")
			}
			for j := range end {
				end[j] = sp("changed", "")
			}
			_, _ = append(stay, put("added", "")), append(end, sp("added", ""))
			again, endAgain := call()
			if !slices.Equal(again, wantStay) || !slices.Equal(endAgain, wantEnd) {
				t.Fatalf("call %d: %#v, %q, then %#v, %q", n, wantStay, wantEnd, again, endAgain)
			}
			if !slices.Equal(lRoom, wantL) || !slices.Equal(kRoom, wantK) || !slices.Equal(deadRoom, wantDead) || !slices.Equal(normRoom, wantNorm) {
				t.Fatalf("call %d changes its arguments", n)
			}
		}
	}
}

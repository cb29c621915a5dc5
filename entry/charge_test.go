package entry_test

import (
	"math/rand"
	"slices"
	"strings"
	"testing"

	"downspout/api"
	"downspout/entry"
	"downspout/path"
)

// charges are keys with what a pair with a value of 5 bytes is charged, written out.
func charges() map[string]api.Use {
	inode, bytes, nothing := api.Use{Inodes: 1}, api.Use{Bytes: 5}, api.Use{}
	return map[string]api.Use{
		"\x01": inode, "a/\x01": inode, "a/b/\x01": inode, "\x05000000ff/\x01": inode, "\x0500000000/\x01": inode, "00000001/\x01": inode,
		strings.Repeat("twelveletter/", 100) + "\x01": inode,
		"\x02\x00\x00": bytes, "a/\x02\x00\x00": bytes, "a/\x02\x01\x02": bytes, "a/\x02\xea\x60": bytes, "\x05000000ff/\x02\x00\x07": bytes,
		"\x03x": bytes, "a/\x03name": bytes, "a/\x03twelveletter": bytes, "\x05000000ff/\x03x": bytes,
		// A mark in the index of links is right, but not charged.
		"\x06\x01": nothing, "\x06a/\x01": nothing, "\x06a/b/\x01": nothing,
		// These stand for nothing.
		"": nothing, "a": nothing, "a/": nothing, "\x05000000ff/": nothing, "/\x01": nothing, "a//\x01": nothing, "a\x01": nothing, "a/../\x01": nothing, "thirteenbytes/\x01": nothing, "a/\x01\x01": nothing, "a/\x01x": nothing,
		"a/\x02": nothing, "a/\x02\x00": nothing, "a/\x02\x00\x00\x00": nothing, "a/\x02\xea\x61": nothing, "a/\x02\xff\xff": nothing,
		"a/\x03": nothing, "a/\x03..": nothing, "a/\x03x/": nothing, "a/\x03thirteenbytes": nothing, "a/\x04": nothing, "a/\x00": nothing,
		"\x05000000FF/\x01": nothing, "\x0580000000/\x01": nothing, "\x05000000ff/a/\x01": nothing, "\x06a/\x02\x00\x00": nothing, "\x06a/\x03x": nothing, "\x06\x05000000ff/\x01": nothing, "\x07a/\x01": nothing, "\xff\x01": nothing,
	}
}

// sampleValues are values of all lengths that pairs may have, and more; some are entries.
func sampleValues() []string {
	l := []string{"", "\x00", "12345", "\x01\x07", "\x02\x07\x01\x02\x00\x01", "\x03\x00a", "\x04\x00\x00\x00\x00\x01", "é", strings.Repeat("\xff", 100000)}
	for n := range 70 {
		l = append(l, strings.Repeat("v", n))
	}
	return l
}

// P3.1, C4: pairs are charged as the chapter says.
func TestCharge(t *testing.T) {
	for k, want := range charges() {
		if got := entry.Charge(api.Pair{Key: k, Value: "12345"}); got != want {
			t.Errorf("Charge of %q: %+v", k, got)
		}
		if got := entry.Total([]api.Pair{{Key: k, Value: "12345"}}); got != want {
			t.Errorf("Total of %q: %+v", k, got)
		}
	}
}

// P3.1, P3.4: an entry is one inode whatever its value is, a block or an attribute as many bytes as its value has, and the stamp does not matter.
func TestChargesOfValues(t *testing.T) {
	stamps := []int{0, 1, 7, api.MaxStamp, api.MaxStamp + 1, -1, 1<<63 - 1, -1 << 63}
	for k, five := range charges() {
		for _, v := range sampleValues() {
			want := five
			if five.Bytes != 0 {
				want.Bytes = len(v)
			}
			for _, n := range stamps {
				got := entry.Charge(api.Pair{Key: k, Value: v, Stamp: n})
				if got != want {
					t.Fatalf("Charge of %q with %d bytes and the stamp %d: %+v", k, len(v), n, got)
				}
				if got.Inodes < 0 || got.Inodes > 1 || got.Bytes < 0 || got.Inodes > 0 && got.Bytes > 0 {
					t.Fatalf("Charge of %q: %+v", k, got)
				}
			}
		}
	}
}

// P3.1, C4: whether a key is charged depends on the place for which it stands.
func TestChargesOfPlaces(t *testing.T) {
	eachText("\x00\x01\x02\x03\x05\x06/.a", 6, func(k string) {
		want := api.Use{}
		if x, err := path.Place(k); err == api.OK {
			switch x.Tag {
			case 1:
				want.Inodes = 1
			case 2, 3:
				want.Bytes = 3
			}
		}
		if got := entry.Charge(api.Pair{Key: k, Value: "123"}); got != want {
			t.Fatalf("Charge of %q: %+v", k, got)
		}
	})
}

// samplePairs are pairs in no order, some of them several times: no table.
func samplePairs(r *rand.Rand) []api.Pair {
	keys := make([]string, 0, len(charges()))
	for k := range charges() {
		keys = append(keys, k)
	}
	slices.Sort(keys)
	values := sampleValues()
	var l []api.Pair
	for range r.Intn(30) {
		l = append(l, api.Pair{Key: keys[r.Intn(len(keys))], Value: values[r.Intn(len(values))], Stamp: r.Intn(3)})
	}
	return l
}

// plus returns the sum of two uses.
func plus(a, b api.Use) api.Use {
	return api.Use{Inodes: a.Inodes + b.Inodes, Bytes: a.Bytes + b.Bytes}
}

// P3.1, P3.5: the total of two lists together is the sum of both totals; the order does not matter. P2: the list stays as it is.
func TestTotals(t *testing.T) {
	if got := entry.Total(nil); got != (api.Use{}) {
		t.Errorf("Total(nil): %+v", got)
	}
	if got := entry.Total([]api.Pair{}); got != (api.Use{}) {
		t.Errorf("Total of no pairs: %+v", got)
	}
	r := rand.New(rand.NewSource(3))
	for range 1000 {
		a, b := samplePairs(r), samplePairs(r)
		both := append(slices.Clone(a), b...)
		want := plus(entry.Total(a), entry.Total(b))
		kept := slices.Clone(both)
		if got := entry.Total(both); got != want {
			t.Fatalf("Total: %+v, but %+v of both", got, want)
		}
		if !slices.Equal(both, kept) {
			t.Fatal("the list was modified")
		}
		one := api.Use{}
		for _, p := range both {
			one = plus(one, entry.Charge(p))
		}
		if one != want {
			t.Fatalf("the charges are %+v, the total %+v", one, want)
		}
		r.Shuffle(len(both), func(i, j int) { both[i], both[j] = both[j], both[i] })
		if got := entry.Total(both); got != want {
			t.Fatalf("Total: %+v, but in another order %+v", want, got)
		}
	}
}

// P3.5: a pair that is there several times is charged each time, since the list need be no table.
func TestTotalOfTheSame(t *testing.T) {
	entries := slices.Repeat([]api.Pair{{Key: "a/\x01", Value: "\x01\x00"}}, 3)
	blocks := slices.Repeat([]api.Pair{{Key: "a/\x02\x00\x00", Value: "12345"}}, 4)
	marks := slices.Repeat([]api.Pair{{Key: "\x06a/\x01", Value: "1"}}, 5)
	if got := entry.Total(slices.Concat(blocks, entries, marks)); got != (api.Use{Inodes: 3, Bytes: 20}) {
		t.Errorf("Total: %+v", got)
	}
}

package node_test

import (
	"bytes"
	"hash/fnv"
	"math/rand"
	"slices"
	"testing"

	"downspout/api"
	"downspout/node"
)

// refused checks that bytes are refused.
func refused(t *testing.T, b []byte) {
	t.Helper()
	if n, err := node.Parse(b); err != api.ErrNode || !same(n, api.Node{}) {
		t.Fatalf("Parse(%v): %#v, %d", b, n, err)
	}
}

// P10.1, J5: the examples of the chapter, and other nodes, written out.
func TestBytesWrittenOut(t *testing.T) {
	zeros := string(make([]byte, 32))
	for i, c := range []struct {
		n    api.Node
		want string
	}{
		{api.Node{}, "L\x00\x00\x00\x00"},
		{leaf(pair("k", "v", 258)), "L\x00\x00\x00\x01\x00\x01k\x00\x01v\x00\x00\x01\x02"},
		{leaf(pair("\x00", "", 0), pair(long(258), long(64), 1000000000)), "L\x00\x00\x00\x02\x00\x01\x00\x00\x00\x00\x00\x00\x00\x01\x02" + long(258) + "\x00\x40" + long(64) + "\x3b\x9a\xca\x00"},
		{inner(make([]api.Sum, 1), nil), "N\x00\x00\x00\x01\x00\x00\x0f\xff" + zeros + "\x00\x00\x00\x00"},
		{
			inner([]api.Sum{sum(1, 0x0102030405, 3, 0x01020304050607), {}}, []string{"bc"}, del("k"), drop("", "z")),
			"N\x00\x00\x00\x02\x00\x00\x0f\xff\x00\x00\x0e\xd3\x00\x02bc" +
				"\x00\x00\x00\x00\x00\x00\x00\x01\x00\x00\x00\x01\x02\x03\x04\x05\x00\x00\x00\x00\x00\x00\x00\x03\x00\x01\x02\x03\x04\x05\x06\x07" + zeros +
				"\x00\x00\x00\x02\x02\x00\x01k\x03\x00\x00\x00\x01z",
		},
	} {
		if got := node.Bytes(c.n); string(got) != c.want {
			t.Errorf("case %d: %q", i, got)
		}
		n, err := node.Parse([]byte(c.want))
		checkNode(t, "Parse", n, c.n)
		if err != api.OK {
			t.Errorf("case %d: %d", i, err)
		}
	}
}

// P10.1, P10.2: nodes and their bytes determine each other.
func TestBytes(t *testing.T) {
	all := map[string]api.Node{}
	for _, n := range nodes() {
		b := node.Bytes(n)
		if !bytes.Equal(b, modelBytes(n)) {
			t.Fatalf("Bytes(%#v): %v", n, b)
		}
		got, err := node.Parse(b)
		checkNode(t, "Parse", got, n)
		if err != api.OK {
			t.Fatalf("Parse(%v): %d", b, err)
		}
		if other, has := all[string(b)]; has && !same(n, other) {
			t.Fatalf("%#v and %#v have the same bytes", n, other)
		}
		all[string(b)] = n
	}
}

// P10.8: beginnings of the bytes of a node, and these bytes followed by others, are refused.
func TestLengths(t *testing.T) {
	for _, n := range nodes() {
		b := node.Bytes(n)
		for size := range b {
			if size < 400 || size > len(b)-400 {
				refused(t, b[:size])
			}
		}
		for _, after := range []string{"\x00", "\xff", "L", "\x00\x00\x00\x00", "\x02\x00\x01k", string(b)} {
			refused(t, slices.Concat(b, []byte(after)))
		}
	}
}

// P10.1, J5: what is not valid for the span of all keys has no bytes.
func TestNoBytes(t *testing.T) {
	none := 0
	var all []api.Node
	for _, buf := range buffers() {
		all = append(all, inner(make([]api.Sum, 1), nil, buf...))
	}
	for _, sums := range sumLists() {
		all = append(all, inner(sums, nil), inner(sums, []string{"a"}))
	}
	for _, k := range []string{"", "a", long(65535), long(65536)} {
		all = append(all, leaf(pair(k, "", 0)), leaf(pair("a", "", 0), pair(k, "", 0)), leaf(pair(k, long(65), 0)), leaf(pair(k, "", -1)), leaf(pair(k, "", 1000000001)), leaf(pair(k, "", 1<<32)))
		all = append(all, inner(make([]api.Sum, 3), []string{"a", k[:min(len(k), 65535)]}))
	}
	for _, kid := range []int{-1, 4096, 1 << 32} {
		all = append(all, api.Node{Kids: []int{kid}, Sums: make([]api.Sum, 1)})
	}
	all = append(all, api.Node{Pivots: []string{"a"}}, api.Node{Sums: make([]api.Sum, 1)}, api.Node{Buf: list(del("a"))})
	for _, n := range all {
		got := node.Bytes(n)
		if modelValid(n, api.Span{}) {
			if !bytes.Equal(got, modelBytes(n)) {
				t.Fatalf("Bytes(%#v): %v", n, got)
			}
			continue
		}
		none++
		if len(got) > 0 {
			t.Fatalf("Bytes(%#v): %v", n, got)
		}
		// These bytes may be those of another node, since they do not have all fields.
		checkParse(t, modelBytes(n))
	}
	if none < 50 {
		t.Errorf("only %d nodes are not valid", none)
	}
}

// checkParse compares Parse with the model, and with Bytes.
func checkParse(t *testing.T, b []byte) bool {
	t.Helper()
	want, ok := modelParse(b)
	if !ok {
		refused(t, b)
		return false
	}
	got, err := node.Parse(b)
	checkNode(t, "Parse", got, want)
	if err != api.OK || !bytes.Equal(node.Bytes(got), b) {
		t.Fatalf("Parse(%v): %d", b, err)
	}
	return true
}

// P10.1, P10.2, P10.6: bytes one of which is another one: if they are those of a node, it has these bytes. Their check is another one.
func TestChangedBytes(t *testing.T) {
	refusals, read := 0, 0
	for nth, n := range nodes() {
		b := node.Bytes(n)
		check := node.Check(b)
		// Many of the nodes differ in one message only.
		if len(b) > 3000 || nth > 60 && nth%11 != 0 {
			continue
		}
		for i := range b {
			for _, c := range []byte{0, 1, 2, 64, 65, 76, 78, 127, 128, 255, b[i] + 1, b[i] - 1, b[i] ^ 0x80} {
				changed := slices.Clone(b)
				changed[i] = c
				if checkParse(t, changed) {
					read++
				} else {
					refusals++
				}
				if (node.Check(changed) == check) != (c == b[i]) {
					t.Fatalf("%v, and %d instead of %d at %d: the same check", b, c, b[i], i)
				}
			}
		}
	}
	if read < 1000 || refusals < 1000 {
		t.Errorf("%d are read, %d are refused", read, refusals)
	}
}

// P10.1, J5: bytes that would be those of a node, if it were valid, and others.
func TestRefused(t *testing.T) {
	zeros := string(make([]byte, 32))
	for _, b := range []string{
		"", "\x00", "L", "N", "M\x00\x00\x00\x00", "l\x00\x00\x00\x00", "L\x00\x00\x00", "L\x00\x00\x00\x01", "L\xff\xff\xff\xff", "N\xff\xff\xff\xff",
		"N\x00\x00\x00\x00", "N\x00\x00\x00\x00\x00\x00\x00\x00", "N\x00\x00\x00\x00" + zeros + "\x00\x00\x00\x00",
		"L\x00\x00\x00\x01\x00\x00\x00\x01v\x00\x00\x00\x00", "L\x00\x00\x00\x01\x00\x01k\x00\x41" + long(65) + "\x00\x00\x00\x00", "L\x00\x00\x00\x01\x00\x01k\x00\x00\x3b\x9a\xca\x01", "L\x00\x00\x00\x01\x00\x01k\x00\x00\xff\xff\xff\xff",
		"L\x00\x00\x00\x02\x00\x01k\x00\x00\x00\x00\x00\x00\x00\x01k\x00\x00\x00\x00\x00\x00", "L\x00\x00\x00\x02\x00\x01k\x00\x00\x00\x00\x00\x00\x00\x01a\x00\x00\x00\x00\x00\x00",
		"N\x00\x00\x00\x01\x00\x00\x10\x00" + zeros + "\x00\x00\x00\x00", "N\x00\x00\x00\x01\xff\xff\xff\xff" + zeros + "\x00\x00\x00\x00", "N\x00\x00\x00\x01\x00\x00\x00\x01" + zeros + "\x00\x00\x00\x01", "N\x00\x00\x00\x01\x00\x00\x00\x01" + zeros + "\xff\xff\xff\xff\x02\x00\x01k",
		"N\x00\x00\x00\x01\x00\x00\x00\x01" + zeros + "\x00\x00\x00\x01\x02\x00\x00", "N\x00\x00\x00\x01\x00\x00\x00\x01" + zeros + "\x00\x00\x00\x02\x07\x00\x01k\x02\x00\x01k", "N\x00\x00\x00\x01\x00\x00\x00\x01" + zeros + "\x00\x00\x00\x01\x02\x00\x01k\x02\x00\x01k",
		"N\x00\x00\x00\x01\x00\x00\x00\x01" + zeros[:24] + "\x00\x03\x8d\x7e\xa4\xc6\x80\x01\x00\x00\x00\x00", "N\x00\x00\x00\x01\x00\x00\x00\x01\xff\xff\xff\xff\xff\xff\xff\xff" + zeros[8:] + "\x00\x00\x00\x00", "N\x00\x00\x00\x01\x00\x00\x00\x01\x00\x00\x00\x00\x00\x00\x00\x01" + zeros[8:] + "\x00\x00\x00\x00",
		"N\x00\x00\x00\x02\x00\x00\x00\x01\x00\x00\x00\x02\x00\x00" + zeros + zeros + "\x00\x00\x00\x00", "N\x00\x00\x00\x03\x00\x00\x00\x01\x00\x00\x00\x02\x00\x00\x00\x03\x00\x01b\x00\x01a" + zeros + zeros + zeros + "\x00\x00\x00\x00",
	} {
		refused(t, []byte(b))
		if checkParse(t, []byte(b)) {
			t.Errorf("%q is read", b)
		}
	}
	read := "N\x00\x00\x00\x01\x00\x00\x00\x01" + zeros[:24] + "\x00\x03\x8d\x7e\xa4\xc6\x80\x00\x00\x00\x00\x00"
	if !checkParse(t, []byte(read)) {
		t.Error("the greatest bound is refused")
	}
}

// P10.1, P10.2: random bytes behind the beginning of a node, and parts of nodes that are joined.
func TestRandomBytes(t *testing.T) {
	r := rand.New(rand.NewSource(102))
	all := nodes()
	for range 30000 {
		b := []byte{"LN"[r.Intn(2)], 0, 0, 0, byte(r.Intn(3))}
		for range r.Intn(60) {
			b = append(b, []byte{0, 0, 0, 0, 1, 2, 'k', 255}[r.Intn(8)])
		}
		checkParse(t, b)
		x, y := node.Bytes(all[r.Intn(len(all))]), node.Bytes(all[r.Intn(len(all))])
		checkParse(t, slices.Concat(x[:r.Intn(min(len(x), 60))], y[r.Intn(min(len(y), 60)):]))
	}
}

// P10.1, J5: the check of bytes, written out, and of many others.
func TestCheck(t *testing.T) {
	for s, want := range map[string]uint64{"": 14695981039346656037, "a": 12638187200555641996, "foobar": 0x85944171f73967e8, "\x00": 12638153115695167455, "\xff": 12638352127299873646} {
		h := fnv.New64a()
		h.Write([]byte(s))
		if got := node.Check([]byte(s)); got != want || want != h.Sum64() {
			t.Errorf("Check of %q: %d, not %d", s, got, h.Sum64())
		}
	}
	r := rand.New(rand.NewSource(101))
	for range 2000 {
		b := make([]byte, r.Intn(300))
		r.Read(b)
		h := fnv.New64a()
		h.Write(b)
		if got := node.Check(b); got != h.Sum64() {
			t.Fatalf("Check of %v: %d", b, got)
		}
	}
}

// P10.6: one byte that is any other one, at each place.
func TestCheckOfChanges(t *testing.T) {
	r := rand.New(rand.NewSource(106))
	for size := range 40 {
		b := make([]byte, size)
		r.Read(b)
		want := node.Check(b)
		for i, old := range b {
			for c := range 256 {
				b[i] = byte(c)
				if (node.Check(b) == want) != (byte(c) == old) {
					t.Fatalf("%v, where %d was at %d", b, old, i)
				}
			}
			b[i] = old
		}
	}
}

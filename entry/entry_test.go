package entry_test

import (
	"strings"
	"testing"

	"downspout/api"
	"downspout/entry"
)

// rightValues are entries with their values, written out.
func rightValues() map[string]api.Entry {
	return map[string]api.Entry{
		"\x01\x00":                           {Kind: api.Dir},
		"\x01\x07":                           {Kind: api.Dir, Owner: 7},
		"\x01\xff":                           {Kind: api.Dir, Owner: 255},
		"\x02\x00\x00\x00\x00\x00":           {Kind: api.File},
		"\x02\x07\x01\x02\x00\x01":           {Kind: api.File, Size: 258, Links: 1, Owner: 7},
		"\x02\x00\x00\x01\x02\x03":           {Kind: api.File, Size: 1, Links: 515},
		"\x02\xff\xea\x60\x03\xe8":           {Kind: api.File, Size: 60000, Links: 1000, Owner: 255},
		"\x03\x00a":                          {Kind: api.Sym, Text: "a"},
		"\x03\x09/a b":                       {Kind: api.Sym, Text: "/a b", Owner: 9},
		"\x03\x00 ":                          {Kind: api.Sym, Text: " "},
		"\x03\x00../~":                       {Kind: api.Sym, Text: "../~"},
		"\x03\x00" + strings.Repeat("x", 50): {Kind: api.Sym, Text: strings.Repeat("x", 50)},
		"\x04\x00\x00\x00\x00\x00":           {Kind: api.Link},
		"\x04\x05\x01\x02\x03\x04":           {Kind: api.Link, Id: 0x01020304, Owner: 5},
		"\x04\xff\x7f\xff\xff\xff":           {Kind: api.Link, Id: 1<<31 - 1, Owner: 255},
	}
}

// wrongValues are values of no entry.
func wrongValues() []string {
	return []string{
		"", "\x00", "\x01", "\x02", "\x03", "\x04", "\x05", "\xff", "\x00\x00", "\x05\x00", "\x06\x00", "\x80\x00", "\xff\x00", "1\x00",
		"\x01\x07\x00", "\x01\x00\x00\x00\x00\x00", "\x01\x00a",
		"\x02\x00", "\x02\x00\x00", "\x02\x00\x00\x00", "\x02\x00\x00\x00\x00", "\x02\x00\x00\x00\x00\x00\x00", "\x02\x00\xea\x61\x00\x00", "\x02\x00\xff\xff\x00\x00", "\x02\x00\x00\x00\x03\xe9", "\x02\x00\x00\x00\xff\xff", "\x02\x00\x00\x00\x04\x00",
		"\x03\x00", "\x03\x00\x1f", "\x03\x00\x7f", "\x03\x00\x00", "\x03\x00a\x00", "\x03\x00\x80", "\x03\x00é", "\x03\x00" + strings.Repeat("x", 51), "\x03\x00" + strings.Repeat("x", 49) + "\x7f",
		"\x04\x00", "\x04\x00\x00\x00\x00", "\x04\x00\x00\x00\x00\x00\x00", "\x04\x00\x80\x00\x00\x00", "\x04\x00\xff\xff\xff\xff",
		"\x00\x00\x00\x00\x00\x00", "\x05\x00\x00\x00\x00\x00", "\x05\x00a",
	}
}

// wrongEntries are entries that are not valid.
func wrongEntries() []api.Entry {
	return []api.Entry{
		{}, {Kind: 5}, {Kind: -1}, {Kind: 257}, {Kind: 1<<32 + 1}, {Owner: 1}, {Text: "a"},
		{Kind: api.Dir, Owner: 256}, {Kind: api.Dir, Owner: -1}, {Kind: api.Dir, Size: 1}, {Kind: api.Dir, Links: 1}, {Kind: api.Dir, Id: 1}, {Kind: api.Dir, Text: "a"},
		{Kind: api.File, Size: -1}, {Kind: api.File, Size: 60001}, {Kind: api.File, Size: 65536}, {Kind: api.File, Links: -1}, {Kind: api.File, Links: 1001}, {Kind: api.File, Links: 65536}, {Kind: api.File, Id: 1}, {Kind: api.File, Text: "a"}, {Kind: api.File, Owner: 256},
		{Kind: api.Sym}, {Kind: api.Sym, Text: strings.Repeat("x", 51)}, {Kind: api.Sym, Text: "a\x7f"}, {Kind: api.Sym, Text: "\x1fa"}, {Kind: api.Sym, Text: "é"}, {Kind: api.Sym, Text: "a", Size: 1}, {Kind: api.Sym, Text: "a", Links: 1}, {Kind: api.Sym, Text: "a", Id: 1}, {Kind: api.Sym, Text: "a", Owner: -1},
		{Kind: api.Link, Id: -1}, {Kind: api.Link, Id: 1 << 31}, {Kind: api.Link, Id: 1 << 32}, {Kind: api.Link, Size: 1}, {Kind: api.Link, Links: 1}, {Kind: api.Link, Text: "a"}, {Kind: api.Link, Owner: 256},
	}
}

// P3.1, C1 to C3: entries have the values that the chapter says, and others are refused.
func TestValues(t *testing.T) {
	for v, e := range rightValues() {
		if !entry.Valid(e) {
			t.Errorf("Valid(%+v)", e)
		}
		if got, err := entry.Encode(e); got != v || err != api.OK {
			t.Errorf("Encode(%+v): %q, %v", e, got, err)
		}
		if got, err := entry.Decode(v); got != e || err != api.OK {
			t.Errorf("Decode(%q): %+v, %v", v, got, err)
		}
	}
	for _, e := range wrongEntries() {
		if entry.Valid(e) {
			t.Errorf("Valid(%+v)", e)
		}
		if got, err := entry.Encode(e); got != "" || err != api.ErrEntry {
			t.Errorf("Encode(%+v): %q, %v", e, got, err)
		}
	}
	for _, v := range wrongValues() {
		if got, err := entry.Decode(v); got != (api.Entry{}) || err != api.ErrEntry {
			t.Errorf("Decode(%q): %+v, %v", v, got, err)
		}
	}
}

// P3.1, P3.2, P3.3, P1 and P2: entries of all kinds and of none, with fields in their ranges and outside.
func TestEntries(t *testing.T) {
	valid := 0
	for _, e := range sampleEntries() {
		checkEntry(t, e)
		if modelValid(e) {
			valid++
		}
	}
	if valid < 300 {
		t.Errorf("just %d entries are valid", valid)
	}
}

// checkEntry compares an entry with the model, and its value with the bounds.
func checkEntry(t *testing.T, e api.Entry) {
	t.Helper()
	if entry.Valid(e) != modelValid(e) {
		t.Fatalf("Valid(%+v): %v", e, entry.Valid(e))
	}
	v, err := entry.Encode(e)
	if again, err2 := entry.Encode(e); again != v || err2 != err {
		t.Fatalf("Encode(%+v): %q and %q", e, v, again)
	}
	if !modelValid(e) {
		if v != "" || err != api.ErrEntry {
			t.Fatalf("Encode(%+v): %q, %v", e, v, err)
		}
		return
	}
	if v != modelValue(e) || err != api.OK {
		t.Fatalf("Encode(%+v): %q, %v", e, v, err)
	}
	if len(v) > 52 || int(v[0]) != e.Kind {
		t.Fatalf("Encode(%+v): %q has %d bytes", e, v, len(v))
	}
	if back, err := entry.Decode(v); back != e || err != api.OK {
		t.Fatalf("Decode(%q): %+v, %v", v, back, err)
	}
}

// P3.2: values and valid entries determine each other: what is decoded is valid and has this value, and no other entry has it.
func TestAllValues(t *testing.T) {
	seen := map[api.Entry]string{}
	check := func(v string) {
		e := checkValue(t, v)
		if e == (api.Entry{}) {
			return
		}
		if other, ok := seen[e]; ok && other != v {
			t.Fatalf("%q and %q are the values of %+v", other, v, e)
		}
		seen[e] = v
	}
	eachText("\x00\x01\x02\x03\x04\x05a\xff", 6, check)
	for b := range 256 {
		one := string([]byte{byte(b)})
		for kind := range 7 {
			head := string([]byte{byte(kind), 9})
			for _, v := range []string{one, one + one, head + one, head + "a" + one, head + "a" + one + "a", head + one + "\x00\x00\x00", head + "\x00" + one + "\x00\x00", head + "\x00\x00" + one + "\x00", head + "\x00\x00\x00" + one, head + one + one + "\x01\x01", head + "\x01\x01" + one + one} {
				check(v)
			}
			check(string([]byte{byte(kind), byte(b)}))
			check(string([]byte{byte(kind), byte(b), 0, 1, 0, 2}))
			check(string([]byte{byte(b), byte(kind), 'x'}))
		}
	}
	for _, v := range append(wrongValues(), strings.Repeat("\x03", 100000), "\x03\x00"+strings.Repeat("a", 100000)) {
		checkValue(t, v)
	}
	if len(seen) < 1000 {
		t.Errorf("just %d values", len(seen))
	}
}

// checkValue decodes a value. The model tells whether what it is, if anything, has this value: there is at most one such entry, since the kind and the length tell where the fields are.
func checkValue(t *testing.T, v string) api.Entry {
	t.Helper()
	e, err := entry.Decode(v)
	if again, err2 := entry.Decode(v); again != e || err2 != err {
		t.Fatalf("Decode(%q): %+v and %+v", v, e, again)
	}
	want, ok := modelDecode(v)
	if !ok {
		if e != (api.Entry{}) || err != api.ErrEntry {
			t.Fatalf("Decode(%q): %+v, %v", v, e, err)
		}
		return e
	}
	if e != want || err != api.OK {
		t.Fatalf("Decode(%q): %+v, %v", v, e, err)
	}
	if back, err := entry.Encode(e); back != v || err != api.OK {
		t.Fatalf("Encode(%+v): %q, %v", e, back, err)
	}
	return e
}

// modelDecode tries the entries of all kinds that a value may be.
func modelDecode(v string) (api.Entry, bool) {
	at := func(i int) int {
		if i < len(v) {
			return int(v[i])
		}
		return 0
	}
	tail := ""
	if len(v) > 2 {
		tail = v[2:]
	}
	for _, e := range []api.Entry{
		{Kind: 1, Owner: at(1)},
		{Kind: 2, Owner: at(1), Size: at(2)*256 + at(3), Links: at(4)*256 + at(5)},
		{Kind: 3, Owner: at(1), Text: tail},
		{Kind: 4, Owner: at(1), Id: ((at(2)*256+at(3))*256+at(4))*256 + at(5)},
	} {
		if modelValid(e) && modelValue(e) == v {
			return e, true
		}
	}
	return api.Entry{}, false
}

// P3.3: the longest value has 52 bytes, which a table can keep.
func TestLongestValue(t *testing.T) {
	v, err := entry.Encode(api.Entry{Kind: api.Sym, Text: strings.Repeat("a", 50)})
	if len(v) != 52 || err != api.OK {
		t.Errorf("%d bytes, %v", len(v), err)
	}
	if v, err := entry.Encode(api.Entry{Kind: api.Sym, Text: strings.Repeat("a", 51)}); v != "" || err != api.ErrEntry {
		t.Errorf("%q, %v", v, err)
	}
}

// P3.6: sizes, links and owners are accepted exactly in their ranges, each one.
func TestRanges(t *testing.T) {
	for n := -70000; n <= 70000; n++ {
		checkEntry(t, api.Entry{Kind: api.File, Size: n, Links: 1})
	}
	for n := -2000; n <= 70000; n++ {
		checkEntry(t, api.Entry{Kind: api.File, Size: 1, Links: n})
	}
	for n := -600; n <= 600; n++ {
		for _, e := range []api.Entry{{Kind: api.Dir}, {Kind: api.File, Size: 3}, {Kind: api.Sym, Text: "a"}, {Kind: api.Link, Id: 3}} {
			e.Owner = n
			checkEntry(t, e)
		}
		checkEntry(t, api.Entry{Kind: n, Text: "a"})
		checkEntry(t, api.Entry{Kind: n})
	}
	for shift := range 63 {
		for d := -2; d <= 2; d++ {
			checkEntry(t, api.Entry{Kind: api.Link, Id: 1<<shift + d})
			checkEntry(t, api.Entry{Kind: api.Link, Id: -1<<shift + d})
		}
	}
}

// P3.6: all sizes and numbers of links that two bytes can have are decoded exactly in their ranges.
func TestDecodedRanges(t *testing.T) {
	for n := range 65536 {
		two := string([]byte{byte(n >> 8), byte(n)})
		checkValue(t, "\x02\x07"+two+"\x00\x01")
		checkValue(t, "\x02\x07\x00\x01"+two)
		checkValue(t, "\x04\x07"+two+"\xff\xff")
	}
}

// P3.6: each byte is accepted in a text exactly in its range, wherever it stands; and texts of each length up to their limit.
func TestTexts(t *testing.T) {
	for b := range 256 {
		one := string([]byte{byte(b)})
		for _, s := range []string{one, "a" + one, one + "a", "a" + one + "a", strings.Repeat("a", 49) + one} {
			want := b >= 32 && b <= 126
			if got := entry.Valid(api.Entry{Kind: api.Sym, Text: s}); got != want {
				t.Errorf("the text %q: %v", s, got)
			}
			if e, _ := entry.Decode("\x03\x00" + s); (e.Text == s) != want {
				t.Errorf("Decode of the text %q: %+v", s, e)
			}
		}
	}
	for n := range 300 {
		s := strings.Repeat("a", n)
		if got := entry.Valid(api.Entry{Kind: api.Sym, Text: s}); got != (n >= 1 && n <= 50) {
			t.Errorf("%d bytes: %v", n, got)
		}
	}
}

// P3.7: a field that belongs to another kind is refused, whatever it is.
func TestOtherKinds(t *testing.T) {
	own := map[int]api.Entry{api.Dir: {}, api.File: {Size: 2, Links: 1}, api.Sym: {Text: "a"}, api.Link: {Id: 1}}
	for kind, e := range own {
		e.Kind = kind
		if !entry.Valid(e) {
			t.Errorf("Valid(%+v)", e)
		}
		for _, n := range numbers {
			if n == 0 {
				continue
			}
			size, links, id := e, e, e
			size.Size, links.Links, id.Id = n, n, n
			if kind != api.File {
				checkRefused(t, size)
				checkRefused(t, links)
			}
			if kind != api.Link {
				checkRefused(t, id)
			}
		}
		for _, s := range []string{"a", " ", "\x00", strings.Repeat("a", 51)} {
			text := e
			text.Text = s
			if kind != api.Sym {
				checkRefused(t, text)
			}
		}
	}
}

func checkRefused(t *testing.T, e api.Entry) {
	t.Helper()
	if entry.Valid(e) {
		t.Errorf("Valid(%+v)", e)
	}
	if v, err := entry.Encode(e); v != "" || err != api.ErrEntry {
		t.Errorf("Encode(%+v): %q, %v", e, v, err)
	}
}

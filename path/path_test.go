package path_test

import (
	"strings"
	"testing"

	"downspout/api"
	"downspout/path"
)

// P1.1, A1: exactly the texts that the chapter calls paths are valid.
func TestValid(t *testing.T) {
	for _, p := range samplePaths {
		if !path.Valid(p) {
			t.Errorf("%q is a path", p)
		}
	}
	for _, n := range sampleNames {
		if !path.Valid(n+"/") || !path.Valid("a/"+n+"/b/") || path.Valid(n) || path.Valid("a/"+n) {
			t.Errorf("name %q", n)
		}
	}
	for _, n := range wrongNames {
		if strings.HasPrefix(n, "a/") { // followed by a slash, that is two names
			continue
		}
		if path.Valid(n+"/") || path.Valid("a/"+n+"/") || path.Valid(n+"/a/") {
			t.Errorf("no name %q", n)
		}
	}
	for b := range 256 {
		s := string([]byte{byte(b)})
		want := b >= 33 && b <= 126 && b != '/'
		if got := path.Valid("x" + s + "/"); got != want && b != '/' {
			t.Errorf("byte %d in a name: %v", b, got)
		}
		if got := path.Valid(s + "/"); got != (want && b != '.') {
			t.Errorf("byte %d as a name: %v", b, got)
		}
	}
	eachText("./a\x01 \x05", 6, func(s string) {
		if got, want := path.Valid(s), modelPath(s); got != want {
			t.Fatalf("Valid(%q): %v", s, got)
		}
	})
}

// P1.1, A2: typed paths are parsed, and others refused.
func TestParse(t *testing.T) {
	for s, want := range map[string]string{
		"/":                   "",
		"/a":                  "a/",
		"/a/b":                "a/b/",
		"/...":                ".../",
		"/.a/a./~":            ".a/a./~/",
		"/" + deep + "abcd":   deep + "abcd/",
		"/abcdefghijkl":       "abcdefghijkl/",
		"/0000000f/\"'\\$%&*": "0000000f/\"'\\$%&*/",
	} {
		if got, err := path.Parse(s); got != want || err != api.OK {
			t.Errorf("Parse(%q): %q, %v", s, got, err)
		}
		if got := path.Text(want); got != s {
			t.Errorf("Text(%q): %q", want, got)
		}
	}
	for _, s := range []string{"", "a", "a/", "a/b", "/a/", "//", "///", "//a", "/a//b", "/.", "/..", "/a/.", "/../a", "/thirteenbytes", " /a", "/a ", "/a b", "/a\x00", "/a\x7f", "/\xc3\xa9", "\x0500000001", "/\x0500000001", "\x06/a"} {
		if got, err := path.Parse(s); got != "" || err != api.ErrPath {
			t.Errorf("Parse(%q): %q, %v", s, got, err)
		}
	}
}

// P1.1, A3: the last name is split off.
func TestSplit(t *testing.T) {
	for _, x := range []struct {
		p, above, last string
		err            api.Errno
	}{
		{"a/", "", "a", api.OK},
		{"a/b/", "a/", "b", api.OK},
		{"a/bc/def/", "a/bc/", "def", api.OK},
		{deep + deep + "x/", deep + deep, "x", api.OK},
		{"", "", "", api.ErrRoot},
		{"/", "", "", api.ErrPath},
		{"a", "", "", api.ErrPath},
		{"a//", "", "", api.ErrPath},
		{"/a/", "", "", api.ErrPath},
		{"a/../", "", "", api.ErrPath},
		{"../a/", "", "", api.ErrPath},
		{path.Body(1), "", "", api.ErrPath},
	} {
		if above, last, err := path.Split(x.p); above != x.above || last != x.last || err != x.err {
			t.Errorf("Split(%q): %q, %q, %v", x.p, above, last, err)
		}
	}
}

// P1.1, A4: names are joined; errors are found in the order in which they are named.
func TestJoin(t *testing.T) {
	for _, x := range []struct {
		p, name, want string
		err           api.Errno
	}{
		{"", "a", "a/", api.OK},
		{"a/", "b", "a/b/", api.OK},
		{"a/", "...", "a/.../", api.OK},
		{deep, "abcd", deep + "abcd/", api.OK},
		{deep, "abcde", "", api.ErrBig},
		{deep + deep, "a", "", api.ErrBig},
		{"a", "b", "", api.ErrPath},
		{"/", "b", "", api.ErrPath},
		{"a", "..", "", api.ErrPath},
		{path.Body(1), "b", "", api.ErrPath},
		{"/" + deep + deep, "b", "", api.ErrPath},
		{"/" + deep + deep, "..", "", api.ErrPath},
		{deep + deep, "..", "", api.ErrName},
		{deep, "thirteenbytes", "", api.ErrName},
	} {
		if got, err := path.Join(x.p, x.name); got != x.want || err != x.err {
			t.Errorf("Join(%q, %q): %q, %v", x.p, x.name, got, err)
		}
	}
	for _, n := range wrongNames {
		if got, err := path.Join("a/", n); got != "" || err != api.ErrName {
			t.Errorf("Join with %q: %q, %v", n, got, err)
		}
	}
}

// P1.1, A5: being below is beginning with, for all texts.
func TestUnder(t *testing.T) {
	for _, x := range []struct {
		p, q string
		want bool
	}{
		{"", "", true},
		{"a/", "", true},
		{"a/", "a/", true},
		{"a/b/", "a/", true},
		{"a/b/c/", "a/", true},
		{"", "a/", false},
		{"a/", "a/b/", false},
		{"ab/", "a/", false},
		{"b/a/", "a/", false},
		{"x", "", true},
		{"xy", "x", true},
		{"x", "xy", false},
		{"\x00\xff", "\x00", true},
	} {
		if got := path.Under(x.p, x.q); got != x.want {
			t.Errorf("Under(%q, %q): %v", x.p, x.q, got)
		}
	}
}

// P1.2: paths of at most 200 bytes and their typed forms determine each other.
func TestTyping(t *testing.T) {
	typed := map[string]string{}
	for _, p := range samplePaths {
		s := path.Text(p)
		if q, ok := typed[s]; ok {
			t.Errorf("%q and %q are typed alike", p, q)
		}
		typed[s] = p
		got, err := path.Parse(s)
		if len(p) <= 200 && (got != p || err != api.OK) {
			t.Errorf("Parse(Text(%q)): %q, %v", p, got, err)
		}
		if len(p) > 200 && (got != "" || err != api.ErrPath) {
			t.Errorf("Parse of %d bytes: %q, %v", len(s), got, err)
		}
	}
	eachText("/.a\x01", 6, func(s string) {
		p, err := path.Parse(s)
		if err == api.OK && (path.Text(p) != s || !path.Valid(p)) {
			t.Fatalf("Parse(%q): %q", s, p)
		}
		if want := s == "/" || strings.HasPrefix(s, "/") && modelPath(s[1:]+"/"); want != (err == api.OK) {
			t.Fatalf("Parse(%q): %q, %v", s, p, err)
		}
	})
}

// P1.3: splitting inverts joining, and each path but the root is joined of its parts.
func TestNames(t *testing.T) {
	for _, p := range samplePaths {
		for _, n := range sampleNames {
			j, err := path.Join(p, n)
			if len(p)+len(n)+1 > 200 {
				if j != "" || err != api.ErrBig {
					t.Errorf("Join(%q, %q): %q, %v", p, n, j, err)
				}
				continue
			}
			if above, last, e := path.Split(j); err != api.OK || e != api.OK || above != p || last != n {
				t.Errorf("Split(Join(%q, %q)): %q, %q, %v, %v", p, n, above, last, err, e)
			}
		}
		if p == "" {
			continue
		}
		above, last, err := path.Split(p)
		if err != api.OK || above+last+"/" != p || !path.Valid(above) {
			t.Errorf("Split(%q): %q, %q, %v", p, above, last, err)
		}
		if j, err := path.Join(above, last); len(p) <= 200 && (j != p || err != api.OK) {
			t.Errorf("Join of the parts of %q: %q, %v", p, j, err)
		}
	}
}

// P1.4: being the same or below is a partial order, with the root above all; what is below has more names.
func TestBelow(t *testing.T) {
	for _, p := range samplePaths {
		if !path.Under(p, p) || !path.Under(p, "") || p != "" && path.Under("", p) {
			t.Errorf("%q and itself, or the root", p)
		}
		if above, _, err := path.Split(p); err == api.OK && (!path.Under(p, above) || path.Under(above, p)) {
			t.Errorf("%q and what is above", p)
		}
		for _, q := range samplePaths {
			if p == q || !path.Under(p, q) {
				continue
			}
			if path.Under(q, p) {
				t.Errorf("%q and %q are below each other", p, q)
			}
			if strings.Count(p, "/") <= strings.Count(q, "/") {
				t.Errorf("%q is below %q, with fewer names", p, q)
			}
			for _, r := range samplePaths {
				if path.Under(q, r) && !path.Under(p, r) {
					t.Errorf("%q, %q and %q", p, q, r)
				}
			}
		}
	}
}

// P1.8: bodies are in the order of their numbers; they are no paths, and neither begins with the other.
func TestBodies(t *testing.T) {
	for id, want := range map[int]string{
		0:          "\x0500000000/",
		10:         "\x050000000a/",
		255:        "\x05000000ff/",
		0x12345678: "\x0512345678/",
		0x7abcdef9: "\x057abcdef9/",
		2147483647: "\x057fffffff/",
	} {
		if got := path.Body(id); got != want {
			t.Errorf("Body(%d): %q", id, got)
		}
	}
	for i, id := range sampleBodies {
		b := path.Body(id)
		if !modelBody(b) || path.Valid(b) {
			t.Errorf("Body(%d): %q", id, b)
		}
		for _, other := range sampleBodies[i+1:] {
			if c := path.Body(other); b >= c || path.Under(b, c) || path.Under(c, b) {
				t.Errorf("bodies %d and %d", id, other)
			}
		}
		for _, p := range samplePaths {
			if p != "" && (path.Under(b, p) || path.Under(p, b)) {
				t.Errorf("body %d and path %q", id, p)
			}
		}
	}
	for n := range 3000 {
		id := n * 715827 // up to nearly 2^31
		if path.Body(id) >= path.Body(id+1) {
			t.Errorf("bodies %d and %d", id, id+1)
		}
	}
}

// P1.9: names, typed paths, numbers and bodies are accepted up to their limits, and no further.
func TestLimits(t *testing.T) {
	twelve, thirteen := "abcdefghijkl", "abcdefghijklm"
	if !path.Valid(twelve+"/") || path.Valid(thirteen+"/") {
		t.Error("names in paths")
	}
	if _, err := path.Join("", twelve); err != api.OK {
		t.Error("joining 12 bytes")
	}
	if _, err := path.Join("", thirteen); err != api.ErrName {
		t.Error("joining 13 bytes")
	}
	if _, err := path.Key(api.Place{Tag: api.IsAttr, Name: twelve}); err != api.OK {
		t.Error("an attribute of 12 bytes")
	}
	if _, err := path.Key(api.Place{Tag: api.IsAttr, Name: thirteen}); err != api.ErrKey {
		t.Error("an attribute of 13 bytes")
	}
	if _, err := path.Place("\x03" + thirteen); err != api.ErrKey {
		t.Error("the key of an attribute of 13 bytes")
	}
	if p, err := path.Parse("/" + deep + "abcd"); len(p) != 200 || err != api.OK {
		t.Errorf("a typed path of 200 bytes: %v", err)
	}
	if _, err := path.Parse("/" + deep + "abcde"); err != api.ErrPath {
		t.Errorf("a typed path of 201 bytes: %v", err)
	}
	if !path.Valid(deep + "abcde/") {
		t.Error("a path of 201 bytes that is not typed")
	}
	for n, ok := range map[int]bool{-1: false, 0: true, 1: true, 59999: true, 60000: true, 60001: false, 65535: false, 65536: false, 1 << 32: false, -1 << 63: false} {
		if _, err := path.Key(api.Place{Tag: api.IsBlock, N: n}); (err == api.OK) != ok || !ok && err != api.ErrKey {
			t.Errorf("block %d: %v", n, err)
		}
	}
	for k, want := range map[string]api.Errno{"\x02\x00\x00": api.OK, "\x02\xea\x60": api.OK, "\x02\xea\x61": api.ErrKey, "\x02\xeb\x00": api.ErrKey, "\x02\xff\xff": api.ErrKey} {
		if _, err := path.Place(k); err != want {
			t.Errorf("Place(%q): %v", k, err)
		}
	}
	for id, ok := range map[int]bool{-1 << 63: false, -1: false, 0: true, 2147483647: true, 2147483648: false, 1 << 32: false, 1<<63 - 1: false} {
		if b := path.Body(id); (b != "") != ok {
			t.Errorf("Body(%d): %q", id, b)
		}
	}
	for k, want := range map[string]api.Errno{"\x0500000000/\x01": api.OK, "\x057fffffff/\x01": api.OK, "\x0580000000/\x01": api.ErrKey, "\x05ffffffff/\x01": api.ErrKey} {
		if _, err := path.Place(k); err != want {
			t.Errorf("Place(%q): %v", k, err)
		}
	}
}

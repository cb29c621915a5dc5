package path_test

import (
	"strings"
	"testing"

	"downspout/api"
	"downspout/path"
)

// The model follows the definitions of the chapter word by word, without regard to speed, and shares nothing with the program.

func modelName(s string) bool {
	if len(s) < 1 || len(s) > 12 || s == "." || s == ".." {
		return false
	}
	for _, b := range []byte(s) {
		if b < 33 || b > 126 || b == '/' {
			return false
		}
	}
	return true
}

func modelPath(p string) bool {
	if p == "" {
		return true
	}
	names := strings.Split(p, "/")
	last := len(names) - 1
	if names[last] != "" {
		return false
	}
	for _, n := range names[:last] {
		if !modelName(n) {
			return false
		}
	}
	return true
}

func modelBody(p string) bool {
	if len(p) != 10 || p[0] != 5 || p[9] != '/' {
		return false
	}
	n := 0
	for _, b := range []byte(p[1:9]) {
		d := strings.IndexByte("0123456789abcdef", b)
		if d < 0 {
			return false
		}
		n = n*16 + d
	}
	return n <= 2147483647
}

// modelPlaces returns all right places whose key is k: it tries every part of k as the path.
func modelPlaces(k string) []api.Place {
	var l []api.Place
	for i := 0; i <= len(k); i++ {
		p, rest := k[:i], k[i:]
		if !modelPath(p) && !modelBody(p) {
			continue
		}
		if rest == "\x01" {
			l = append(l, api.Place{Path: p, Tag: api.IsEntry})
		}
		if len(rest) == 3 && rest[0] == 2 {
			if n := int(rest[1])*256 + int(rest[2]); n <= 60000 {
				l = append(l, api.Place{Path: p, Tag: api.IsBlock, N: n})
			}
		}
		if len(rest) > 0 && rest[0] == 3 && modelName(rest[1:]) {
			l = append(l, api.Place{Path: p, Tag: api.IsAttr, Name: rest[1:]})
		}
	}
	if len(k) >= 2 && k[0] == 6 && k[len(k)-1] == 1 && modelPath(k[1:len(k)-1]) {
		l = append(l, api.Place{Path: k[1 : len(k)-1], Tag: api.IsLink})
	}
	return l
}

// eachText calls f with all texts of at most n bytes from an alphabet.
func eachText(alphabet string, n int, f func(string)) {
	var grow func(s []byte)
	grow = func(s []byte) {
		f(string(s))
		if len(s) == n {
			return
		}
		for i := range len(alphabet) {
			grow(append(s, alphabet[i]))
		}
	}
	grow(make([]byte, 0, n))
}

// deep is a path of 195 bytes.
var deep = strings.Repeat("twelveletter/", 15)

// samplePaths are paths, some of which are below others or look like the digits of a body.
var samplePaths = []string{
	"",
	"!/",
	"!/!/",
	"0000000f/",
	"a!/",
	"a/",
	"a/.../",
	"a/a/",
	"a/b/",
	"a/b/a/b/",
	"a/b/c/",
	"a/bb/",
	"a0000000f/b/",
	"ab/",
	"b/",
	"b/a/",
	"twelvelette/",
	deep,
	deep + "twelveletter/",
	deep + deep,
	"~/",
	"~/~~~~~~~~~~~~/",
}

// sampleNames are names, in order.
var sampleNames = []string{"!", "!!", "...", ".a", "0", "a", "a!", "a.", "ab", "abcdefghijkl", "b", "~", "~~~~~~~~~~~~"}

// wrongNames are no names.
var wrongNames = []string{"", ".", "..", "/", "a/", "/a", "a/b", " ", "a b", "\x00", "\x1f", "\x7f", "a\x80", "\xff", "\xc3\xa9", "thirteenbytes", "abcdefghijklm", "\x01", "\x05", "\n"}

// sampleBlocks are numbers of blocks, in order; some have bytes that look like names, slashes and tags.
var sampleBlocks = []int{0, 1, 2, 3, 5, 6, 0x2f, 0x61, 0xff, 0x100, 0x101, 0x102, 0x201, 0x301, 0x2e2f, 0x2f01, 0x2f2f, 0x612f, 0x6161, 0x7e7e, 59999, 60000}

// sampleBodies are numbers of bodies, in order.
var sampleBodies = []int{0, 1, 9, 10, 15, 16, 255, 256, 0xabcdef, 0x10000000, 0x7ffffffe, 0x7fffffff}

// placesOf returns places of a path or a body, in the order of their keys.
func placesOf(p string) []api.Place {
	l := []api.Place{{Path: p, Tag: api.IsEntry}}
	for _, n := range sampleBlocks {
		l = append(l, api.Place{Path: p, Tag: api.IsBlock, N: n})
	}
	for _, n := range sampleNames {
		l = append(l, api.Place{Path: p, Tag: api.IsAttr, Name: n})
	}
	return l
}

// samplePlaces are places of all kinds.
func samplePlaces() []api.Place {
	var l []api.Place
	for _, p := range samplePaths {
		l = append(l, placesOf(p)...)
		l = append(l, api.Place{Path: p, Tag: api.IsLink})
	}
	for _, id := range sampleBodies {
		l = append(l, placesOf(path.Body(id))...)
	}
	return l
}

// mustKey returns the key of a right place.
func mustKey(t *testing.T, x api.Place) string {
	t.Helper()
	k, err := path.Key(x)
	if err != api.OK || k == "" {
		t.Fatalf("Key(%+v): %q, %v", x, k, err)
	}
	return k
}

package entry_test

import (
	"strings"

	"downspout/api"
)

// The model follows the definitions of the chapter word by word, and shares nothing with the program.

func modelIn(n, lo, hi int) bool { return n >= lo && n <= hi }

func modelValid(e api.Entry) bool {
	if !modelIn(e.Owner, 0, 255) {
		return false
	}
	noSize, noLinks, noId, noText := e.Size == 0, e.Links == 0, e.Id == 0, e.Text == ""
	switch e.Kind {
	case 1:
		return noSize && noLinks && noId && noText
	case 2:
		return modelIn(e.Size, 0, 60000) && modelIn(e.Links, 0, 1000) && noId && noText
	case 3:
		return noSize && noLinks && noId && modelText(e.Text)
	case 4:
		return noSize && noLinks && modelIn(e.Id, 0, 2147483647) && noText
	}
	return false
}

func modelText(s string) bool {
	for _, b := range []byte(s) {
		if !modelIn(int(b), 32, 126) {
			return false
		}
	}
	return modelIn(len(s), 1, 50)
}

// modelValue returns the value of a valid entry.
func modelValue(e api.Entry) string {
	v := []int{e.Kind, e.Owner}
	switch e.Kind {
	case 2:
		v = append(v, e.Size/256, e.Size%256, e.Links/256, e.Links%256)
	case 3:
		for _, b := range []byte(e.Text) {
			v = append(v, int(b))
		}
	case 4:
		v = append(v, e.Id/16777216, e.Id/65536%256, e.Id/256%256, e.Id%256)
	}
	b := make([]byte, len(v))
	for i, n := range v {
		b[i] = byte(n)
	}
	return string(b)
}

// numbers are around all limits of fields, and where a number with fewer bits would be within them.
var numbers = []int{
	0, 1, -1, 2, 3, 4, 5, 7, 32, 50, 126, 127, 128, 255, 256, 257, 258, 511, 512, 999, 1000, 1001, 1256, 32767, 32768, 59999, 60000, 60001,
	65535, 65536, 65537, 1<<24 - 1, 1 << 24, 1<<24 + 1, 1<<31 - 2, 1<<31 - 1, 1 << 31, 1<<31 + 1, 1<<32 - 1, 1 << 32, 1<<32 + 1, 1<<32 + 1000, 1 << 40,
	-2, -255, -256, -1000, -65536, -1 << 31, -1<<31 - 1, -1 << 32, 1<<63 - 1, -1 << 63, -1<<63 + 1,
}

// sampleTexts are texts to which a symbolic link may point, and others.
func sampleTexts() []string {
	l := []string{"", "a", "/", "/a b", "a/b/", "../x", " ", "~", "\x1f", "\x7f", "a\x00", "\x00a", "a\x1fb", "a\x7fb", "é", "aé", "\xff", "a\n", "\x80"}
	for n := range 54 {
		l = append(l, strings.Repeat("~", n), strings.Repeat(" ", n))
	}
	for _, n := range []int{100, 255, 256, 257, 65536, 65586, 100000} {
		l = append(l, strings.Repeat("a", n))
	}
	for i := range 50 {
		l = append(l, strings.Repeat("a", i)+"\x7f"+strings.Repeat("a", 49-i))
	}
	return l
}

// sampleEntries are entries of all kinds and of none, with the fields of all kinds, in their ranges and outside.
func sampleEntries() []api.Entry {
	var l []api.Entry
	add := func(e api.Entry) {
		for _, owner := range []int{0, 1, 255, 256, -1} {
			e.Owner = owner
			l = append(l, e)
		}
	}
	for _, kind := range []int{0, 1, 2, 3, 4, 5, -1, 256, 257, 258, 259, 260, 1<<32 + 1, -1 << 63, 1<<63 - 1} {
		for _, n := range numbers {
			add(api.Entry{Kind: kind, Size: n})
			add(api.Entry{Kind: kind, Links: n})
			add(api.Entry{Kind: kind, Id: n})
			add(api.Entry{Kind: kind, Size: n, Links: n})
			add(api.Entry{Kind: kind, Size: n, Text: "a"})
			add(api.Entry{Kind: kind, Links: n, Text: "a"})
			add(api.Entry{Kind: kind, Id: n, Text: "a"})
			add(api.Entry{Kind: kind, Size: 1, Links: 1, Id: n})
		}
		for _, s := range sampleTexts() {
			add(api.Entry{Kind: kind, Text: s})
		}
	}
	for _, owner := range numbers {
		l = append(l, api.Entry{Kind: 1, Owner: owner}, api.Entry{Kind: 2, Owner: owner, Size: 1, Links: 2}, api.Entry{Kind: 3, Owner: owner, Text: "a"}, api.Entry{Kind: 4, Owner: owner, Id: 1})
	}
	return l
}

// eachText calls f with all texts of at most n bytes from an alphabet.
func eachText(alphabet string, n int, f func(string)) {
	var grow func(s []byte)
	grow = func(s []byte) {
		f(string(s))
		if len(s) == n {
			return
		}
		for i := range len(alphabet) {
			grow(append(s, alphabet[i]))
		}
	}
	grow(make([]byte, 0, n))
}

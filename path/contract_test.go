package path_test

import (
	"strings"
	"testing"

	"downspout/api"
	"downspout/path"
)

// oddTexts are texts that may be no paths, no names and no keys, short and long ones.
func oddTexts() []string {
	l := append([]string{}, samplePaths...)
	l = append(l, sampleNames...)
	l = append(l, wrongNames...)
	l = append(l, wrongKeys()...)
	for k := range rightKeys() {
		l = append(l, k)
	}
	for b := range 256 {
		l = append(l, string([]byte{byte(b)}))
	}
	return append(l, strings.Repeat("/", 100000), strings.Repeat("a", 100000), strings.Repeat("a/", 100000), strings.Repeat("\x00", 100000))
}

// P1 and P2: all functions accept all texts; results depend only on them, and are zero values with an error.
func TestAllTexts(t *testing.T) {
	for _, s := range oddTexts() {
		short := s[:min(len(s), 40)]
		if path.Valid(s) != path.Valid(s) || path.Valid(s) != modelPath(s) {
			t.Errorf("Valid(%q)", short)
		}
		if path.Text(s) != path.Text(s) {
			t.Errorf("Text(%q)", short)
		}
		p, err := path.Parse(s)
		if again, err2 := path.Parse(s); p != again || err != err2 || err != api.OK && p != "" {
			t.Errorf("Parse(%q): %v", short, err)
		}
		above, last, err := path.Split(s)
		if a, l, err2 := path.Split(s); above != a || last != l || err != err2 || err != api.OK && above+last != "" {
			t.Errorf("Split(%q): %v", short, err)
		}
		x, err := path.Place(s)
		if y, err2 := path.Place(s); x != y || err != err2 || err != api.OK && x != (api.Place{}) {
			t.Errorf("Place(%q): %v", short, err)
		}
		checkPlaces(t, s)
	}
}

// checkPlaces checks the keys of places that have a text as their path or their name.
func checkPlaces(t *testing.T, s string) {
	t.Helper()
	short := s[:min(len(s), 40)]
	for tag := -1; tag <= 7; tag++ {
		for _, x := range []api.Place{{Path: s, Tag: tag}, {Path: s, Tag: tag, N: 7}, {Path: s, Tag: tag, Name: "x"}, {Path: "a/", Tag: tag, Name: s}} {
			k, err := path.Key(x)
			if again, err2 := path.Key(x); k != again || err != err2 || err != api.OK && k != "" {
				t.Errorf("Key with %q and the tag %d: %v", short, tag, err)
			}
			if (err == api.OK) != modelRight(x) || err != api.OK && err != api.ErrKey {
				t.Errorf("Key with %q and the tag %d: %v", short, tag, err)
			}
		}
	}
}

// modelRight reports whether a place is right.
func modelRight(x api.Place) bool {
	owner := modelPath(x.Path) || modelBody(x.Path)
	switch x.Tag {
	case 1:
		return owner && x.N == 0 && x.Name == ""
	case 2:
		return owner && x.N >= 0 && x.N <= 60000 && x.Name == ""
	case 3:
		return owner && x.N == 0 && modelName(x.Name)
	case 4:
		return modelPath(x.Path) && x.N == 0 && x.Name == ""
	}
	return false
}

// P1 and P2, for two texts.
func TestAllPairs(t *testing.T) {
	texts := oddTexts()
	for _, s := range texts {
		for _, u := range texts {
			if len(s)+len(u) > 1000 {
				continue
			}
			want := api.OK
			switch {
			case !modelPath(s):
				want = api.ErrPath
			case !modelName(u):
				want = api.ErrName
			case len(s)+len(u) >= 200:
				want = api.ErrBig
			}
			p, err := path.Join(s, u)
			if err != want || err != api.OK && p != "" || err == api.OK && p != s+u+"/" {
				t.Fatalf("Join(%q, %q): %q, %v", s, u, p, err)
			}
			if path.Under(s, u) != (len(s) >= len(u) && s[:len(u)] == u) {
				t.Fatalf("Under(%q, %q)", s, u)
			}
		}
	}
}

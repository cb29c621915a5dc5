package path_test

import (
	"strings"
	"testing"

	"downspout/api"
	"downspout/path"
)

// rightKeys are places with their keys, written out.
func rightKeys() map[string]api.Place {
	body := "\x05000000ff/"
	return map[string]api.Place{
		"\x01":                      {Tag: api.IsEntry},
		"a/\x01":                    {Path: "a/", Tag: api.IsEntry},
		"a/b/\x01":                  {Path: "a/b/", Tag: api.IsEntry},
		body + "\x01":               {Path: body, Tag: api.IsEntry},
		deep + deep + "\x01":        {Path: deep + deep, Tag: api.IsEntry},
		"\x02\x00\x00":              {Tag: api.IsBlock},
		"a/\x02\x01\x02":            {Path: "a/", Tag: api.IsBlock, N: 258},
		"a/\x02\xea\x60":            {Path: "a/", Tag: api.IsBlock, N: 60000},
		"a/\x02//":                  {Path: "a/", Tag: api.IsBlock, N: 0x2f2f},
		"a/\x02b/":                  {Path: "a/", Tag: api.IsBlock, N: 0x622f},
		"a/\x02\x00\x01":            {Path: "a/", Tag: api.IsBlock, N: 1},
		body + "\x02\x00\x05":       {Path: body, Tag: api.IsBlock, N: 5},
		"\x03~":                     {Tag: api.IsAttr, Name: "~"},
		"a/\x03abcdefghijkl":        {Path: "a/", Tag: api.IsAttr, Name: "abcdefghijkl"},
		"a/\x03...":                 {Path: "a/", Tag: api.IsAttr, Name: "..."},
		body + "\x03x":              {Path: body, Tag: api.IsAttr, Name: "x"},
		"\x06\x01":                  {Tag: api.IsLink},
		"\x06a/\x01":                {Path: "a/", Tag: api.IsLink},
		"\x06a/b/\x01":              {Path: "a/b/", Tag: api.IsLink},
		"\x06" + deep + "x/\x01":    {Path: deep + "x/", Tag: api.IsLink},
		"\x0600000001/\x01":         {Path: "00000001/", Tag: api.IsLink},
		"a00000001/b/\x01":          {Path: "a00000001/b/", Tag: api.IsEntry},
		"000000ff/\x01":             {Path: "000000ff/", Tag: api.IsEntry},
		"\x050000000a/\x02\xea\x00": {Path: "\x050000000a/", Tag: api.IsBlock, N: 0xea00},
	}
}

// wrongKeys are keys of nothing.
func wrongKeys() []string {
	return []string{
		"", "a", "a/", "/", "a\x01", "/\x01", "a//\x01", "./\x01", "../\x01", "a b/\x01", "thirteenbytes/\x01", "\xc3\xa9/\x01",
		"\x00", "a/\x00", "a/\x01\x01", "a/\x01\x00", "a/\x01a", "\x01a/", "\x01\x01",
		"a/\x02", "a/\x02\x01", "a/\x02\x01\x02\x03", "a/\x02\x01\x02/", "a/\x02\xea\x61", "a/\x02\xff\xff", "a/\x02\x00\x00\x00",
		"a/\x03", "a/\x03.", "a/\x03..", "a/\x03a/", "a/\x03/", "a/\x03 ", "a/\x03thirteenbytes", "a/\x03\x01", "a/\x03\xff",
		"a/\x04", "a/\x04\x01", "a/\x05", "a/\x06", "a/\x06\x01", "a/\xff", "\x04", "\x04a/\x01",
		"\x06", "\x06a/", "\x06a\x01", "\x06/\x01", "\x06a/\x01\x01", "\x06a/\x02\x00\x00", "\x06a/\x03x", "\x06a/\x04", "\x06\x06a/\x01", "\x06\x05000000ff/\x01",
		"\x0400000001/\x01", "\x0000000001/\x01", " 00000001/\x01", "\x0700000001/\x01", "\xff00000001/\x01",
		"\x05", "\x05\x01", "\x05/\x01", "\x05000000ff", "\x05000000ff/", "\x05000000ff\x01", "\x050000ff/\x01", "\x050000001/\x01", "\x05000000001/\x01", "\x05000000FF/\x01", "\x05FF000000/\x01", "\x050000000g/\x01", "\x050000000`/\x01", "\x050000000:/\x01", "\x05.0000000/\x01", "\x05/0000000/\x01", "\x05-0000001/\x01", "\x0580000000/\x01", "\x05ffffffff/\x01", "\x05000000ff/a/\x01", "a/\x05000000ff/\x01", "\x05000000ff/\x05000000ff/\x01", "\x05000000ff/\x04", "\x05000000ff/\x02\x00", "\x05000000ff/\x03",
	}
}

// wrongPlaces are places that are not right.
func wrongPlaces() []api.Place {
	body := path.Body(1)
	return []api.Place{
		{}, {Path: "a/"}, {Path: "a/", Tag: -1}, {Path: "a/", Tag: 5}, {Path: "a/", Tag: 6}, {Path: body, Tag: 5},
		{Path: "a/", Tag: 256 + api.IsEntry}, {Path: "a/", Tag: 256 + api.IsBlock}, {Path: "a/", Tag: 1<<32 + api.IsEntry}, {Path: "a/", Tag: -1 << 63},
		{Path: "a", Tag: api.IsEntry}, {Path: "/", Tag: api.IsEntry}, {Path: "/a/", Tag: api.IsEntry}, {Path: "a/../", Tag: api.IsEntry}, {Path: "\x0580000000/", Tag: api.IsEntry}, {Path: body + "a/", Tag: api.IsEntry}, {Path: "a/" + body, Tag: api.IsEntry}, {Path: body[:9], Tag: api.IsEntry}, {Path: "\x01", Tag: api.IsEntry},
		{Path: "a", Tag: api.IsBlock}, {Path: "a", Tag: api.IsAttr, Name: "x"}, {Path: "a", Tag: api.IsLink},
		{Path: "a/", Tag: api.IsEntry, N: 1}, {Path: "a/", Tag: api.IsEntry, N: -1}, {Path: "a/", Tag: api.IsEntry, Name: "x"},
		{Path: "a/", Tag: api.IsBlock, N: -1}, {Path: "a/", Tag: api.IsBlock, N: 60001}, {Path: "a/", Tag: api.IsBlock, N: 65536}, {Path: "a/", Tag: api.IsBlock, N: 1, Name: "x"}, {Path: "a/", Tag: api.IsBlock, Name: "x"},
		{Path: "a/", Tag: api.IsAttr}, {Path: "a/", Tag: api.IsAttr, Name: "x/"}, {Path: "a/", Tag: api.IsAttr, Name: ".."}, {Path: "a/", Tag: api.IsAttr, Name: "thirteenbytes"}, {Path: "a/", Tag: api.IsAttr, Name: "x", N: 1}, {Path: "a/", Tag: api.IsAttr, Name: "x", N: -1},
		{Path: body, Tag: api.IsLink}, {Path: "a/", Tag: api.IsLink, N: 1}, {Path: "a/", Tag: api.IsLink, Name: "x"}, {Path: "\x06a/", Tag: api.IsLink},
	}
}

// P1.1, A7: places have the keys that the chapter lists, and no others.
func TestKeyAndPlace(t *testing.T) {
	for k, x := range rightKeys() {
		if got, err := path.Key(x); got != k || err != api.OK {
			t.Errorf("Key(%+v): %q, %v", x, got, err)
		}
		if got, err := path.Place(k); got != x || err != api.OK {
			t.Errorf("Place(%q): %+v, %v", k, got, err)
		}
	}
	for _, k := range wrongKeys() {
		if got, err := path.Place(k); got != (api.Place{}) || err != api.ErrKey {
			t.Errorf("Place(%q): %+v, %v", k, got, err)
		}
	}
	for _, x := range wrongPlaces() {
		if got, err := path.Key(x); got != "" || err != api.ErrKey {
			t.Errorf("Key(%+v): %q, %v", x, got, err)
		}
	}
}

// P1.5: places and keys determine each other.
func TestKeys(t *testing.T) {
	seen := map[string]api.Place{}
	for _, x := range samplePlaces() {
		k := mustKey(t, x)
		if y, ok := seen[k]; ok {
			t.Errorf("%+v and %+v have the same key", x, y)
		}
		seen[k] = x
		if got, err := path.Place(k); got != x || err != api.OK {
			t.Errorf("Place(Key(%+v)): %+v, %v", x, got, err)
		}
	}
	for n := 0; n <= api.MaxBlocks; n++ {
		x := api.Place{Path: "a/", Tag: api.IsBlock, N: n}
		if got, err := path.Place(mustKey(t, x)); got != x || err != api.OK {
			t.Fatalf("block %d: %+v, %v", n, got, err)
		}
	}
	eachText("\x01\x02\x03\x04\x05\x06/.a", 6, func(k string) { checkKey(t, k) })
	for _, tail := range []string{"", "/", "/\x01", "/\x02\x01\x02", "/\x03a"} {
		eachText("079afFg/\x01", 4, func(s string) {
			checkKey(t, "\x05"+s+"0000"+tail)
			checkKey(t, "\x050000"+s+tail)
		})
	}
}

// checkKey compares what stands for a text with the model.
func checkKey(t *testing.T, k string) {
	t.Helper()
	want := modelPlaces(k)
	if len(want) > 1 {
		t.Fatalf("%q is the key of %+v", k, want)
	}
	got, err := path.Place(k)
	if len(want) == 0 {
		if got != (api.Place{}) || err != api.ErrKey {
			t.Fatalf("Place(%q): %+v, %v", k, got, err)
		}
		return
	}
	if got != want[0] || err != api.OK {
		t.Fatalf("Place(%q): %+v, %v", k, got, err)
	}
	if back := mustKey(t, got); back != k {
		t.Fatalf("Key(Place(%q)): %q", k, back)
	}
}

// P1.6: of a path, the entry comes first, then the blocks by their numbers, then the attributes by their names, then what is below.
func TestOrder(t *testing.T) {
	for _, p := range samplePaths {
		last := ""
		for _, x := range placesOf(p) {
			k := mustKey(t, x)
			if k <= last {
				t.Errorf("%q comes after %q", last, k)
			}
			last = k
		}
		for _, below := range samplePaths {
			if p == below || !path.Under(below, p) {
				continue
			}
			for _, x := range placesOf(below) {
				if k := mustKey(t, x); k <= last {
					t.Errorf("%q comes after %q, which is below", last, k)
				}
			}
		}
	}
	for n := range api.MaxBlocks {
		k := mustKey(t, api.Place{Path: "a/", Tag: api.IsBlock, N: n})
		if l := mustKey(t, api.Place{Path: "a/", Tag: api.IsBlock, N: n + 1}); k >= l {
			t.Fatalf("blocks %d and %d", n, n+1)
		}
	}
}

// P1.7: the keys of a path, and of all paths below it, begin with it; no other keys of entries, blocks and attributes of paths do.
func TestBeginnings(t *testing.T) {
	for _, q := range samplePaths {
		for _, x := range placesOf(q) {
			k := mustKey(t, x)
			for _, p := range samplePaths {
				if strings.HasPrefix(k, p) != path.Under(q, p) {
					t.Errorf("%q and the path %q", k, p)
				}
			}
		}
	}
}

// P1.10: if another path stands at the beginning of a key, it is the key of a place exactly if it was one before, with the same Tag, N and Name.
func TestMoving(t *testing.T) {
	var tails []string
	for _, x := range samplePlaces() {
		tails = append(tails, mustKey(t, x))
	}
	tails = append(tails, wrongKeys()...)
	for _, from := range samplePaths {
		for _, to := range samplePaths {
			if from == "" || to == "" {
				continue
			}
			for _, tail := range tails {
				checkMoved(t, from, to, tail)
			}
		}
	}
}

func checkMoved(t *testing.T, from, to, tail string) {
	t.Helper()
	x, err := path.Place(from + tail)
	y, err2 := path.Place(to + tail)
	if err != err2 {
		t.Fatalf("%q at %q: %v; at %q: %v", tail, from, err, to, err2)
	}
	if err != api.OK {
		return
	}
	if x.Tag != y.Tag || x.N != y.N || x.Name != y.Name {
		t.Fatalf("%q at %q: %+v; at %q: %+v", tail, from, x, to, y)
	}
	if !path.Under(x.Path, from) || y.Path != to+x.Path[len(from):] {
		t.Fatalf("%q at %q: %+v; at %q: %+v", tail, from, x, to, y)
	}
}

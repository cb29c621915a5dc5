package msg_test

import (
	"bytes"
	"slices"
	"testing"

	"downspout/api"
	"downspout/msg"
)

// checkBytes checks the bytes of a valid message, whatever follows them. P5.8: they determine it, and no beginning of them is a message.
func checkBytes(t *testing.T, m api.Msg) {
	t.Helper()
	b := msg.Bytes(m)
	for _, after := range []string{"", "\x00", "\xff\xff", "\x02\x00\x01k"} {
		got, n, e := msg.Parse(slices.Concat(b, []byte(after)))
		if got != m || n != len(b) || e != api.OK {
			t.Fatalf("Parse(%v and %q): %#v, %d, %d", b, after, got, n, e)
		}
	}
	for n := range b {
		if n < 300 || n > len(b)-300 {
			refused(t, b[:n])
		}
	}
}

// refused checks that bytes are refused.
func refused(t *testing.T, b []byte) {
	t.Helper()
	if m, n, e := msg.Parse(b); m != (api.Msg{}) || n != 0 || e != api.ErrForm {
		t.Fatalf("Parse(%v): %#v, %d, %d", b, m, n, e)
	}
}

// P5.1, E5: the bytes of messages, written out.
func TestWrittenOut(t *testing.T) {
	for _, c := range []struct {
		m api.Msg
		b string
	}{
		{del("k"), "\x02\x00\x01k"},
		{put("k", "v", 258), "\x01\x00\x01k\x00\x01v\x00\x00\x01\x02"},
		{put("\x00\xff", "", 1000000000), "\x01\x00\x02\x00\xff\x00\x00\x3b\x9a\xca\x00"},
		{put("k", long(64), 0x01020304), "\x01\x00\x01k\x00\x40" + long(64) + "\x01\x02\x03\x04"},
		{drop("", ""), "\x03\x00\x00\x00\x00"},
		{drop("a", "bc"), "\x03\x00\x01a\x00\x02bc"},
		{move("ab", "c"), "\x04\x00\x02ab\x00\x01c"},
		{clone("a", "bc"), "\x05\x00\x01a\x00\x02bc"},
		{stamp("a", "", 7), "\x06\x00\x01a\x00\x00\x00\x00\x00\x07"},
		{stamp("", "b", 0), "\x06\x00\x00\x00\x01b\x00\x00\x00\x00"},
		{del(long(65535)), "\x02\xff\xff" + long(65535)},
		{del(long(258)), "\x02\x01\x02" + long(258)},
		{drop(long(256), long(65535)), "\x03\x01\x00" + long(256) + "\xff\xff" + long(65535)},
		{clone(long(200), "a"), "\x05\x00\xc8" + long(200) + "\x00\x01a"},
	} {
		if got := msg.Bytes(c.m); string(got) != c.b {
			t.Errorf("Bytes(%#v): %v", c.m, got)
		}
		checkBytes(t, c.m)
	}
}

// P5.8: messages and their bytes determine each other; no bytes of a message begin with those of another one.
func TestBytes(t *testing.T) {
	all := map[string]api.Msg{}
	for _, m := range messages(many) {
		checkBytes(t, m)
		b := string(msg.Bytes(m))
		if other, has := all[b]; has {
			t.Fatalf("%#v and %#v have the bytes %q", m, other, b)
		}
		all[b] = m
	}
	for b := range all {
		for n := range b {
			if m, has := all[b[:n]]; has {
				t.Fatalf("%q begins with the bytes of %#v", b, m)
			}
		}
	}
}

// layouts has the fields of each kind, in the order of its bytes: texts, and then numbers.
var layouts = [...]struct{ texts, numbers int }{api.Put: {2, 1}, api.Del: {1, 0}, api.Drop: {2, 0}, api.Move: {2, 0}, api.Clone: {2, 0}, api.Stamp: {2, 1}}

// modelParse computes where each field is from the numbers before it.
func modelParse(b []byte) (api.Msg, int, bool) {
	if len(b) == 0 || int(b[0]) >= len(layouts) {
		return api.Msg{}, 0, false
	}
	var texts [2]string
	at := 1
	for i := range layouts[b[0]].texts {
		if len(b) < at+2 || len(b) < at+2+int(b[at])*256+int(b[at+1]) {
			return api.Msg{}, 0, false
		}
		n := int(b[at])*256 + int(b[at+1])
		texts[i] = string(b[at+2 : at+2+n])
		at += 2 + n
	}
	m := api.Msg{Kind: int(b[0])}
	switch m.Kind {
	case api.Put:
		m.Key, m.Value = texts[0], texts[1]
	case api.Del:
		m.Key = texts[0]
	case api.Drop, api.Stamp:
		m.Span = api.Span{Lo: texts[0], Hi: texts[1]}
	default:
		m.From, m.To = texts[0], texts[1]
	}
	if layouts[b[0]].numbers == 1 {
		if len(b) < at+4 {
			return api.Msg{}, 0, false
		}
		m.N = int(b[at])<<24 + int(b[at+1])<<16 + int(b[at+2])<<8 + int(b[at+3])
		at += 4
	}
	return m, at, modelValid(m)
}

// checkParse compares Parse with the model, and with Bytes.
func checkParse(t *testing.T, b []byte) {
	t.Helper()
	want, n, ok := modelParse(b)
	if !ok {
		refused(t, b)
		return
	}
	if m, got, e := msg.Parse(b); m != want || got != n || e != api.OK {
		t.Fatalf("Parse(%v): %#v, %d, %d", b, m, got, e)
	}
	if got := msg.Bytes(want); !bytes.Equal(got, b[:n]) {
		t.Fatalf("Bytes(%#v): %v, not %v", want, got, b[:n])
	}
}

// P5.1, P5.8 and E5: all short bytes of a small alphabet.
func TestShortBytes(t *testing.T) {
	const alphabet = "\x00\x01\x02\x03\x05\x06a"
	var next func(b []byte)
	next = func(b []byte) {
		checkParse(t, b)
		if len(b) == 7 {
			return
		}
		for i := range len(alphabet) {
			next(append(b, alphabet[i]))
		}
	}
	next(nil)
}

// P5.1, P5.8 and E5: bytes of messages, one of which is another one.
func TestChangedBytes(t *testing.T) {
	ms := append(messages(few), put("k", long(64), 1000000000), put("k", "v", 0), stamp("a", "", 1000000000), stamp("", "", 999999999), move(long(200), "a"), clone("b", long(200)))
	for _, m := range ms {
		b := append(msg.Bytes(m), "\x00\x01a\x00"...)
		for i := range b {
			for c := range 256 {
				changed := slices.Clone(b)
				changed[i] = byte(c)
				checkParse(t, changed)
			}
		}
	}
}

// P5.1, E5: bytes that would be those of a message, if it were valid.
func TestRefused(t *testing.T) {
	for _, b := range []string{
		"", "\x00", "\x00\x00\x01k", "\x07\x00\x01a\x00\x01b\x00\x00\x00\x00", "\xff\x00\x01k",
		"\x01\x00\x00\x00\x01v\x00\x00\x00\x00", "\x01\x00\x01k\x00\x41" + long(65) + "\x00\x00\x00\x00",
		"\x01\x00\x01k\x00\x00\x3b\x9a\xca\x01", "\x01\x00\x01k\x00\x00\xff\xff\xff\xff", "\x02\x00\x00",
		"\x03\x00\x01a\x00\x01a", "\x03\x00\x01b\x00\x01a", "\x04\x00\x00\x00\x01a", "\x04\x00\x01a\x00\x00",
		"\x04\x00\x01a\x00\x01a", "\x04\x00\x01a\x00\x02ab", "\x05\x00\x02ab\x00\x01a", "\x05\x00\xc9" + long(201) + "\x00\x01a",
		"\x05\x00\x01a\x00\xc9" + long(201), "\x06\x00\x01b\x00\x01a\x00\x00\x00\x00", "\x06\x00\x00\x00\x00\x3b\x9a\xca\x01", "\x06\x00\x00\x00\x00\x80\x00\x00\x00",
	} {
		refused(t, []byte(b))
	}
}

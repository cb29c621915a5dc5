package msg

import "downspout/api"

const (
	kindBytes   = 1
	lengthBytes = 2 // of the number of bytes of a text
	numberBytes = 4
)

// Bytes returns a message as bytes.
func Bytes(m api.Msg) []byte {
	if !Valid(m) {
		return nil
	}
	b := appendNumber(nil, m.Kind, kindBytes)
	texts, numbers := of(&m).fields()
	for _, s := range texts {
		b = appendNumber(b, len(*s), lengthBytes)
		b = append(b, *s...)
	}
	for _, n := range numbers {
		b = appendNumber(b, *n, numberBytes)
	}
	return b
}

// Parse returns the message at the beginning of bytes, and the number of its bytes.
func Parse(b []byte) (api.Msg, int, api.Errno) {
	r := reader{rest: b}
	m := api.Msg{Kind: r.number(kindBytes)}
	texts, numbers := of(&m).fields()
	for _, s := range texts {
		*s = r.text()
	}
	for _, n := range numbers {
		*n = r.number(numberBytes)
	}
	if r.short || !Valid(m) {
		return api.Msg{}, 0, api.ErrForm
	}
	return m, len(b) - len(r.rest), api.OK
}

// appendNumber appends the last bytes of a number, the most significant one first.
func appendNumber(b []byte, n, size int) []byte {
	for shift := 8 * (size - 1); shift >= 0; shift -= 8 {
		b = append(b, byte(n>>shift))
	}
	return b
}

// reader takes parts from the front of bytes. If there are too few, it takes none, and keeps in mind that it was short.
type reader struct {
	rest  []byte
	short bool
}

func (r *reader) take(n int) []byte {
	if len(r.rest) < n {
		r.short = true
		return nil
	}
	part := r.rest[:n]
	r.rest = r.rest[n:]
	return part
}

func (r *reader) number(size int) int {
	n := 0
	for _, b := range r.take(size) {
		n = n<<8 | int(b)
	}
	return n
}

func (r *reader) text() string { return string(r.take(r.number(lengthBytes))) }

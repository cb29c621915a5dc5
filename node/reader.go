package node

import (
	"downspout/api"
	"downspout/msg"
)

// Parse returns the node with some bytes.
func Parse(b []byte) (api.Node, api.Errno) {
	r := reader{rest: b}
	n := r.node()
	if r.failed || len(r.rest) > 0 || !Valid(n, api.Span{}) {
		return api.Node{}, api.ErrNode
	}
	return n, api.OK
}

// reader takes parts from the front of bytes. If they do not begin with what is asked for, it has failed, and what it returns then means nothing.
type reader struct {
	rest   []byte
	failed bool
}

func (r *reader) node() api.Node {
	switch r.number(1) {
	case leafMark:
		return api.Node{Pairs: list(r, r.count(), r.pair)}
	case innerMark:
		return r.inner()
	}
	r.failed = true
	return api.Node{}
}

func (r *reader) inner() api.Node {
	kids := r.count()
	if kids == 0 {
		// Otherwise it would be read as an empty leaf, whose bytes are others.
		r.failed = true
		return api.Node{}
	}
	return api.Node{
		Kids:   list(r, kids, r.count),
		Pivots: list(r, kids-1, r.text),
		Sums:   list(r, kids, r.sum),
		Buf:    list(r, r.count(), r.message),
	}
}

// list reads so many elements. It makes room for none before it is read, since the number may be a wrong one.
func list[E any](r *reader, n int, next func() E) []E {
	var l []E
	for range n {
		if r.failed {
			return nil
		}
		l = append(l, next())
	}
	return l
}

func (r *reader) pair() api.Pair {
	key, value := r.text(), r.text()
	return api.Pair{Key: key, Value: value, Stamp: r.count()}
}

func (r *reader) sum() api.Sum {
	inodes := r.bounds()
	return api.Sum{Inodes: inodes, Bytes: r.bounds()}
}

func (r *reader) bounds() api.Range {
	lo := r.number(boundBytes)
	return api.Range{Lo: lo, Hi: r.number(boundBytes)}
}

func (r *reader) message() api.Msg {
	m, n, err := msg.Parse(r.rest)
	if err != api.OK {
		r.failed = true
	}
	r.take(n)
	return m
}

func (r *reader) count() int { return r.number(numberBytes) }

func (r *reader) text() string { return string(r.take(r.number(lengthBytes))) }

// number reads a number. One of 8 bytes that an int cannot have is negative then, which no bound is.
func (r *reader) number(size int) int {
	n := 0
	for _, b := range r.take(size) {
		n = n<<8 | int(b)
	}
	return n
}

func (r *reader) take(n int) []byte {
	if n > len(r.rest) {
		r.failed = true
		return nil
	}
	part := r.rest[:n]
	r.rest = r.rest[n:]
	return part
}

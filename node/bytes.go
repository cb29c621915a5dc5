package node

import (
	"downspout/api"
	"downspout/msg"
)

// The first byte of bytes says what they are.
const (
	leafMark  = 'L'
	innerMark = 'N'
)

const (
	lengthBytes = 2 // of the number of bytes of a text
	numberBytes = 4
	boundBytes  = 8
)

// Bytes returns a node as bytes.
func Bytes(n api.Node) []byte {
	if !Valid(n, api.Span{}) || !every(n.Pivots, fitsText) {
		return nil
	}
	if isLeaf(n) {
		return leafBytes(n)
	}
	return innerBytes(n)
}

// fitsText reports whether the length of a text fits: that of a pivot need not.
func fitsText(s string) bool { return len(s) <= api.MaxKey }

func leafBytes(n api.Node) []byte {
	b := appendNumber([]byte{leafMark}, len(n.Pairs), numberBytes)
	for _, p := range n.Pairs {
		b = appendText(b, p.Key)
		b = appendText(b, p.Value)
		b = appendNumber(b, p.Stamp, numberBytes)
	}
	return b
}

func innerBytes(n api.Node) []byte {
	b := appendNumber([]byte{innerMark}, len(n.Kids), numberBytes)
	for _, kid := range n.Kids {
		b = appendNumber(b, kid, numberBytes)
	}
	for _, p := range n.Pivots {
		b = appendText(b, p)
	}
	for _, s := range n.Sums {
		for _, bound := range []int{s.Inodes.Lo, s.Inodes.Hi, s.Bytes.Lo, s.Bytes.Hi} {
			b = appendNumber(b, bound, boundBytes)
		}
	}
	b = appendNumber(b, len(n.Buf), numberBytes)
	for _, m := range n.Buf {
		b = append(b, msg.Bytes(m)...)
	}
	return b
}

// appendNumber appends the last bytes of a number, the most significant one first.
func appendNumber(b []byte, n, size int) []byte {
	for i := range size {
		b = append(b, byte(n>>(8*(size-1-i))))
	}
	return b
}

func appendText(b []byte, s string) []byte {
	return append(appendNumber(b, len(s), lengthBytes), s...)
}

// Check returns the check of bytes.
func Check(b []byte) uint64 {
	const (
		first  = 14695981039346656037
		factor = 1099511628211
	)
	check := uint64(first)
	for _, c := range b {
		check = (check ^ uint64(c)) * factor
	}
	return check
}

package entry

import "downspout/api"

const (
	maxId   = 1<<31 - 1
	maxText = 50

	shortBytes = 2 // of a size, and of a number of links
	longBytes  = 4 // of the number of a body
)

// kind has the functions for the fields that the entries of one kind have beside Kind and Owner.
type kind struct {
	fits  func(e api.Entry) bool                // whether these fields are in their ranges, and all others are zero
	write func(b []byte, e api.Entry) []byte    // appends these fields
	read  func(fields string) (api.Entry, bool) // these fields alone, whatever their ranges are
}

// kindOf returns the kind with a number, if there is one.
func kindOf(n int) (kind, bool) {
	kinds := [...]kind{
		api.Dir: {
			fits:  func(e api.Entry) bool { return e == api.Entry{} },
			write: func(b []byte, e api.Entry) []byte { return b },
			read:  func(fields string) (api.Entry, bool) { return api.Entry{}, fields == "" },
		},
		api.File: {fits: fileFits, write: fileBytes, read: fileFields},
		api.Sym: {
			fits:  func(e api.Entry) bool { return e == api.Entry{Text: e.Text} && isText(e.Text) },
			write: func(b []byte, e api.Entry) []byte { return append(b, e.Text...) },
			read:  func(fields string) (api.Entry, bool) { return api.Entry{Text: fields}, true },
		},
		api.Link: {
			fits:  func(e api.Entry) bool { return e == api.Entry{Id: e.Id} && within(e.Id, maxId) },
			write: func(b []byte, e api.Entry) []byte { return appendNumber(b, e.Id, longBytes) },
			read:  linkFields,
		},
	}
	if n < api.Dir || n >= len(kinds) {
		return kind{}, false
	}
	return kinds[n], true
}

func fileFits(e api.Entry) bool {
	return e == api.Entry{Size: e.Size, Links: e.Links} && within(e.Size, api.MaxBlocks) && within(e.Links, api.MaxLinks)
}

func fileBytes(b []byte, e api.Entry) []byte {
	return appendNumber(appendNumber(b, e.Size, shortBytes), e.Links, shortBytes)
}

func fileFields(fields string) (api.Entry, bool) {
	if len(fields) != 2*shortBytes {
		return api.Entry{}, false
	}
	return api.Entry{Size: number(fields[:shortBytes]), Links: number(fields[shortBytes:])}, true
}

func linkFields(fields string) (api.Entry, bool) {
	if len(fields) != longBytes {
		return api.Entry{}, false
	}
	return api.Entry{Id: number(fields)}, true
}

// within reports whether a number is in the range 0 to most.
func within(n, most int) bool { return 0 <= n && n <= most }

// isText reports whether a symbolic link may point to a text.
func isText(s string) bool {
	if len(s) < 1 || len(s) > maxText {
		return false
	}
	for i := range len(s) {
		if s[i] < 32 || s[i] > 126 {
			return false
		}
	}
	return true
}

// appendNumber appends the last bytes of a number, the most significant one first.
func appendNumber(b []byte, n, size int) []byte {
	for shift := 8 * (size - 1); shift >= 0; shift -= 8 {
		b = append(b, byte(n>>shift))
	}
	return b
}

// number returns the number that bytes are, the most significant one first.
func number(s string) int {
	n := 0
	for i := range len(s) {
		n = n<<8 | int(s[i])
	}
	return n
}

package path

import "downspout/api"

// tag says what of a path a place is. The first three are also the bytes that keys have after the path.
type tag int

const (
	entryTag tag = 1 + iota
	blockTag
	attrTag
	linkTag
)

// Bytes that come before the digits of a body, and before the path in a mark of the index of links.
// They are neither tags nor bytes of names, and so tell these keys from all others.
const (
	bodyMark = 5 + iota
	linkMark
)

// Key returns the key that stands for a place.
func Key(x api.Place) (string, api.Errno) {
	t := tag(x.Tag)
	if !t.owns(x.Path) || !t.fits(x.N, x.Name) {
		return "", api.ErrKey
	}
	return t.key(x), api.OK
}

// Place returns what a key stands for.
func Place(k string) (api.Place, api.Errno) {
	p := placeParser{parser: parser{rest: k}}
	if !p.key() || p.rest != "" {
		return api.Place{}, api.ErrKey
	}
	return p.place, api.OK
}

// owns reports whether a text is what places with the tag may have as their path.
func (t tag) owns(p string) bool {
	switch t {
	case entryTag, blockTag, attrTag:
		return Valid(p) || isBody(p)
	case linkTag:
		return Valid(p)
	}
	return false
}

// fits reports whether a number and a name are what places with the tag have.
func (t tag) fits(n int, name string) bool {
	switch t {
	case blockTag:
		return 0 <= n && n <= api.MaxBlocks && name == ""
	case attrTag:
		return n == 0 && isName(name)
	}
	return n == 0 && name == ""
}

// key returns the key of a right place with the tag.
func (t tag) key(x api.Place) string {
	switch t {
	case blockTag:
		return x.Path + string([]byte{byte(t), byte(x.N >> 8), byte(x.N)})
	case attrTag:
		return x.Path + string([]byte{byte(t)}) + x.Name
	case linkTag:
		return string([]byte{linkMark}) + x.Path + string([]byte{byte(entryTag)})
	}
	return x.Path + string([]byte{byte(t)})
}

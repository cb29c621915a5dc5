package path

import (
	"strings"

	"downspout/api"
)

// parser takes parts from the front of a text. A part that is not there leaves the text as it is.
type parser struct{ rest string }

// take takes n bytes.
func (p *parser) take(n int) (string, bool) {
	if len(p.rest) < n {
		return "", false
	}
	part := p.rest[:n]
	p.rest = p.rest[n:]
	return part, true
}

// mark takes the byte b.
func (p *parser) mark(b byte) bool {
	if p.rest == "" || p.rest[0] != b {
		return false
	}
	p.rest = p.rest[1:]
	return true
}

// name takes a name and the slash after it.
func (p *parser) name() bool {
	end := strings.IndexByte(p.rest, '/')
	if end < 0 || !isName(p.rest[:end]) {
		return false
	}
	p.rest = p.rest[end+1:]
	return true
}

// path takes as many names as there are.
func (p *parser) path() string {
	all := p.rest
	for p.name() {
	}
	return all[:len(all)-len(p.rest)]
}

// owner takes a body, or a path if there is none.
func (p *parser) owner() string {
	if len(p.rest) < bodyBytes || !isBody(p.rest[:bodyBytes]) {
		return p.path()
	}
	body, _ := p.take(bodyBytes)
	return body
}

// placeParser collects the place that the parts of a key stand for.
type placeParser struct {
	parser
	place api.Place
}

// key takes all parts of a key.
func (p *placeParser) key() bool {
	if p.mark(linkMark) {
		p.place = api.Place{Path: p.path(), Tag: int(linkTag)}
		return p.mark(byte(entryTag))
	}
	p.place.Path = p.owner()
	return p.tagged()
}

// tagged takes a tag, and what belongs to it.
func (p *placeParser) tagged() bool {
	b, ok := p.take(1)
	if !ok {
		return false
	}
	t := tag(b[0])
	p.place.Tag = int(t)
	switch t {
	case entryTag:
		return true
	case blockTag:
		return p.block()
	case attrTag:
		return p.attr()
	}
	return false
}

// block takes the number of a block.
func (p *placeParser) block() bool {
	b, ok := p.take(2)
	if !ok {
		return false
	}
	p.place.N = int(b[0])<<8 | int(b[1])
	return p.place.N <= api.MaxBlocks
}

// attr takes the name of an attribute, which ends the key.
func (p *placeParser) attr() bool {
	p.place.Name, _ = p.take(len(p.rest))
	return isName(p.place.Name)
}

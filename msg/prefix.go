package msg

import (
	"strings"

	"downspout/api"
	"downspout/span"
	"downspout/table"
)

// clone and move are for all keys that begin with From or To.
type (
	clone api.Msg
	move  api.Msg
)

func (m *clone) fields() ([]*string, []*int) { return []*string{&m.From, &m.To}, nil }

func (m *clone) fits() bool {
	return isFront(m.From) && isFront(m.To) && !strings.HasPrefix(m.From, m.To) && !strings.HasPrefix(m.To, m.From)
}

func (m *clone) apply(t []api.Pair) []api.Pair {
	return table.Union(table.Drop(t, span.Prefix(m.To)), table.Moved(t, m.From, m.To))
}

func (m *clone) reads() []api.Span  { return []api.Span{span.Prefix(m.From)} }
func (m *clone) writes() []api.Span { return []api.Span{span.Prefix(m.To)} }
func (m *clone) kills() []api.Span  { return m.writes() }

func (m *move) fields() ([]*string, []*int) { return (*clone)(m).fields() }
func (m *move) fits() bool                  { return (*clone)(m).fits() }

// apply drops what was moved after it was cloned, which is the same, since neither of From and To begins with the other.
func (m *move) apply(t []api.Pair) []api.Pair {
	return table.Drop((*clone)(m).apply(t), span.Prefix(m.From))
}

func (m *move) reads() []api.Span  { return []api.Span{span.Prefix(m.From)} }
func (m *move) writes() []api.Span { return []api.Span{span.Prefix(m.From), span.Prefix(m.To)} }
func (m *move) kills() []api.Span  { return m.writes() }

// isFront reports whether a text may be what moved keys begin with.
func isFront(p string) bool { return 1 <= len(p) && len(p) <= api.MaxPath }

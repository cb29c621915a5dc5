package msg

import (
	"slices"

	"downspout/api"
	"downspout/span"
	"downspout/table"
)

// drop and stamp are for all keys of a span.
type (
	drop  api.Msg
	stamp api.Msg
)

func (m *drop) fields() ([]*string, []*int)   { return []*string{&m.Span.Lo, &m.Span.Hi}, nil }
func (m *drop) fits() bool                    { return isSpan(m.Span) }
func (m *drop) apply(t []api.Pair) []api.Pair { return table.Drop(t, m.Span) }
func (m *drop) reads() []api.Span             { return nil }
func (m *drop) writes() []api.Span            { return []api.Span{m.Span} }
func (m *drop) kills() []api.Span             { return m.writes() }

func (m *stamp) fields() ([]*string, []*int) {
	return []*string{&m.Span.Lo, &m.Span.Hi}, []*int{&m.N}
}

func (m *stamp) fits() bool { return isSpan(m.Span) && isStamp(m.N) }

func (m *stamp) apply(t []api.Pair) []api.Pair {
	stamped := slices.Clone(t)
	for i, p := range stamped {
		if span.Has(m.Span, p.Key) {
			stamped[i].Stamp = m.N
		}
	}
	return stamped
}

func (m *stamp) reads() []api.Span  { return []api.Span{m.Span} }
func (m *stamp) writes() []api.Span { return []api.Span{m.Span} }
func (m *stamp) kills() []api.Span  { return nil }

func isSpan(s api.Span) bool {
	return !span.Empty(s) && len(s.Lo) <= api.MaxKey && len(s.Hi) <= api.MaxKey
}

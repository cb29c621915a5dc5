package msg

import (
	"slices"

	"downspout/api"
)

// message is what the kinds of messages have in common.
type message interface {
	fields() (texts []*string, numbers []*int) // the fields that the kind has, in the order of its bytes
	fits() bool                                // whether these fields are in their ranges
	apply(t []api.Pair) []api.Pair
	reads() []api.Span
	writes() []api.Span
	kills() []api.Span
}

// of returns m as a message of its kind. The fields are those of m itself, so that they can be filled from bytes.
func of(m *api.Msg) message {
	switch m.Kind {
	case api.Put:
		return (*put)(m)
	case api.Del:
		return (*del)(m)
	case api.Drop:
		return (*drop)(m)
	case api.Move:
		return (*move)(m)
	case api.Clone:
		return (*clone)(m)
	case api.Stamp:
		return (*stamp)(m)
	}
	return (*none)(m)
}

// none is a message of a kind that there is not. It is never valid, and does nothing.
type none api.Msg

func (m *none) fields() ([]*string, []*int)   { return nil, nil }
func (m *none) fits() bool                    { return false }
func (m *none) apply(t []api.Pair) []api.Pair { return slices.Clone(t) }
func (m *none) reads() []api.Span             { return nil }
func (m *none) writes() []api.Span            { return nil }
func (m *none) kills() []api.Span             { return nil }

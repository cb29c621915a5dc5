package msg

import (
	"downspout/api"
	"downspout/span"
	"downspout/table"
)

// put and del are for single keys.
type (
	put api.Msg
	del api.Msg
)

func (m *put) fields() ([]*string, []*int) {
	return []*string{&m.Key, &m.Value}, []*int{&m.N}
}

func (m *put) fits() bool {
	return isKey(m.Key) && len(m.Value) <= api.MaxValue && isStamp(m.N)
}

func (m *put) apply(t []api.Pair) []api.Pair {
	return table.Put(t, api.Pair{Key: m.Key, Value: m.Value, Stamp: m.N})
}

func (m *put) reads() []api.Span  { return nil }
func (m *put) writes() []api.Span { return []api.Span{span.One(m.Key)} }
func (m *put) kills() []api.Span  { return m.writes() }

func (m *del) fields() ([]*string, []*int)   { return []*string{&m.Key}, nil }
func (m *del) fits() bool                    { return isKey(m.Key) }
func (m *del) apply(t []api.Pair) []api.Pair { return table.Del(t, m.Key) }
func (m *del) reads() []api.Span             { return nil }
func (m *del) writes() []api.Span            { return []api.Span{span.One(m.Key)} }
func (m *del) kills() []api.Span             { return m.writes() }

func isKey(k string) bool { return 1 <= len(k) && len(k) <= api.MaxKey }

func isStamp(n int) bool { return 0 <= n && n <= api.MaxStamp }

package trace

import (
	"strings"

	"downspout/api"
	"downspout/span"
)

// keyLooks returns how messages change what is known of a key.
func keyLooks() looks[api.Found] {
	moveBack := func(m api.Msg, f api.Found) api.Found {
		if k, moved := span.Moved(f.Key, m.To, m.From); moved {
			f.Key = k
		}
		return f
	}
	return looks[api.Found]{
		api.Put: func(m api.Msg, f api.Found) api.Found {
			if f.Key != m.Key {
				return f
			}
			return api.Found{Known: true, Has: true, Pair: pairOf(f, m.Value, m.N)}
		},
		api.Del: func(m api.Msg, f api.Found) api.Found {
			return endIf(f.Key == m.Key, f)
		},
		api.Drop: func(m api.Msg, f api.Found) api.Found {
			return endIf(span.Has(m.Span, f.Key), f)
		},
		api.Move: func(m api.Msg, f api.Found) api.Found {
			if strings.HasPrefix(f.Key, m.To) {
				return moveBack(m, f)
			}
			return endIf(strings.HasPrefix(f.Key, m.From), f)
		},
		api.Clone: moveBack,
		api.Stamp: func(m api.Msg, f api.Found) api.Found {
			if !f.Stamped && span.Has(m.Span, f.Key) {
				f.Stamped, f.Stamp = true, m.N
			}
			return f
		},
	}
}

// endIf returns that there is no pair, if a message took it away.
func endIf(gone bool, f api.Found) api.Found {
	if gone {
		return api.Found{Known: true}
	}
	return f
}

// pairOf returns the pair of the key at the beginning, if the one to which it was followed has this value and stamp.
func pairOf(f api.Found, value string, stamp int) api.Pair {
	if f.Stamped {
		stamp = f.Stamp
	}
	return api.Pair{Key: f.Pair.Key, Value: value, Stamp: stamp}
}

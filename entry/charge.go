package entry

import (
	"downspout/api"
	"downspout/path"
)

// total is the sum of charges.
type total api.Use

// Charge returns what a pair is charged.
func Charge(p api.Pair) api.Use {
	x, err := path.Place(p.Key)
	if err != api.OK {
		return api.Use{}
	}
	switch x.Tag {
	case api.IsEntry:
		return api.Use{Inodes: 1}
	case api.IsBlock, api.IsAttr:
		return api.Use{Bytes: len(p.Value)}
	}
	return api.Use{}
}

// Total returns what all pairs are charged.
func Total(t []api.Pair) api.Use {
	var sum total
	for _, p := range t {
		sum.add(Charge(p))
	}
	return api.Use(sum)
}

// add adds a charge.
func (t *total) add(u api.Use) {
	t.Inodes += u.Inodes
	t.Bytes += u.Bytes
}

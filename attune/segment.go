package attune

import (
	"maps"
	"slices"

	"attune/state"
	"attune/tree"
	"attune/wire"
)

// segment has the states of the known keys that are in it, and of no others.
type segment map[string]state.State

func (s segment) text() string {
	var out []byte
	for _, key := range slices.Sorted(maps.Keys(s)) {
		out = wire.Record{Key: key, State: s[key]}.AppendTo(out)
	}
	return string(out)
}

// segmentOf is the segment that a key is in.
func (r *Replica) segmentOf(key string) segment {
	return r.segments[tree.SegmentOf(key)]
}

func (r *Replica) text(n int) string {
	return r.segments[n].text()
}

// digest works it out anew: what has not changed since is not remembered, as no
// promise needs it.
func (r *Replica) digest(level, n int) uint64 {
	return tree.Digest(level, n, r.text)
}

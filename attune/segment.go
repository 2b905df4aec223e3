package attune

import (
	"maps"
	"slices"

	"attune/state"
	"attune/tree"
	"attune/wire"
)

// segment has the states of the known keys that are in it, and of no others.
type segment map[string]state.State

// records are those of all its keys, by rising bytes.
func (s segment) records() []wire.Record {
	var records []wire.Record
	for _, key := range slices.Sorted(maps.Keys(s)) {
		records = append(records, wire.Record{Key: key, State: s[key]})
	}
	return records
}

// join takes in what somebody else knows of its keys.
func (s segment) join(records []wire.Record) {
	for _, told := range records {
		s[told.Key] = s[told.Key].Join(told.State)
	}
}

// segmentOf is the segment that a key is in.
func (r *Replica) segmentOf(key string) segment {
	return r.segments[tree.SegmentOf(key)]
}

func (r *Replica) text(n int) string {
	return string(wire.AppendRecords(nil, r.segments[n].records()))
}

// digest works it out anew: what has not changed since is not remembered, as no
// promise needs it.
func (r *Replica) digest(level, n int) uint64 {
	return tree.Digest(level, n, r.text)
}

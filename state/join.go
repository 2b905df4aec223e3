package state

import (
	"slices"

	"attune/api"
)

// Join is the state of one who knows what both know. A version that a context
// has not seen is not among the versions beside that context either, so that of
// those that both have each comes in once, by the second way.
func (s State) Join(other State) State {
	left := other.unseenBy(s.Context)
	for _, v := range s.Versions {
		i, both := slices.BinarySearchFunc(other.Versions, v, byDot)
		if both {
			v.Value = min(v.Value, other.Versions[i].Value)
		}
		if both || !other.HasSeen(v.Dot) {
			left = append(left, v)
		}
	}
	slices.SortFunc(left, byDot)
	return State{Context: s.Greater(other.Context), Versions: left}
}

// Sound tells whether it may be that of a known key, whoever says so. The
// context alone tells that a key is known, as it must have seen the versions.
func (s State) Sound() bool {
	if !s.Context.Sound() || s.Context == (Context{}) {
		return false
	}
	for i, v := range s.Versions {
		if !v.isOne() || !s.HasSeen(v.Dot) {
			return false
		}
		if i > 0 && byDot(s.Versions[i-1], v) >= 0 {
			return false
		}
	}
	return true
}

// isOne tells whether a version may be one, whatever its context is.
func (v Version) isOne() bool {
	return v.Replica >= 0 && v.Replica < api.Replicas && v.N >= 1 && IsValue(v.Value)
}

// Package state: what a replica keeps of one key, and how a write changes it.
package state

import (
	"cmp"
	"slices"

	"attune/api"
)

// Dot names one write to a key: whose it is, and the how manyth of his.
type Dot struct {
	Replica, N int
}

// Version is a value with the dot of its write.
type Version struct {
	Dot
	Value string
}

// State is what is kept of a key; its context has seen at least its versions,
// which stand by rising replicas, then numbers. The zero State is that of a key
// that is not known.
//
// No call changes a state in place, so that a write that is refused leaves
// nothing behind.
type State struct {
	Context
	Versions []Version
}

// Put is the state after a write of this replica, who has seen that.
func (s State) Put(replica int, value string, seen Context) (State, api.Errno) {
	left := s.unseenBy(seen)
	context := s.Greater(seen)
	if len(left) >= api.MaxVersions || context[replica] >= api.MaxCount {
		return State{}, api.ErrLimit
	}
	context[replica]++
	dot := Dot{Replica: replica, N: context[replica]}
	left = append(left, Version{Dot: dot, Value: value})
	slices.SortFunc(left, byDot)
	return State{Context: context, Versions: left}, api.OK
}

// Delete is the state after somebody who has seen that has deleted it.
func (s State) Delete(seen Context) (State, api.Errno) {
	left := s.unseenBy(seen)
	if len(left) == len(s.Versions) {
		return State{}, api.ErrNone
	}
	return State{Context: s.Greater(seen), Versions: left}, api.OK
}

// unseenBy is a new list, as Put goes on to lengthen and sort it.
func (s State) unseenBy(seen Context) []Version {
	var left []Version
	for _, v := range s.Versions {
		if !seen.HasSeen(v.Dot) {
			left = append(left, v)
		}
	}
	return left
}

func byDot(a, b Version) int {
	return cmp.Or(cmp.Compare(a.Replica, b.Replica), cmp.Compare(a.N, b.N))
}

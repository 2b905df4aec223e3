// Package attune: replicas that find out where they differ, and lose nothing: see DOC.md.
package attune

import (
	"slices"
	"strings"

	"attune/api"
	"attune/letters"
	"attune/state"
	"attune/tree"
)

// Replica: keys with their versions.
type Replica struct {
	number   int
	segments [api.Segments]segment
}

// New makes a replica that knows no key (P3).
func New(replica int) (*Replica, api.Errno) {
	if replica < 0 || replica >= api.Replicas {
		return nil, api.ErrReplica
	}
	r := &Replica{number: replica}
	for n := range r.segments {
		r.segments[n] = segment{}
	}
	return r, api.OK
}

// Put writes a value (P4).
func (r *Replica) Put(key string, value string, seen api.Context) api.Errno {
	context := state.Context(seen)
	switch {
	case !state.IsKey(key):
		return api.ErrKey
	case !state.IsValue(value):
		return api.ErrValue
	case !context.Sound():
		return api.ErrSeen
	}
	after, errno := r.segmentOf(key)[key].Put(r.number, strings.Clone(value), context)
	return r.keep(key, after, errno)
}

// Delete takes away what was seen (P4).
func (r *Replica) Delete(key string, seen api.Context) api.Errno {
	context := state.Context(seen)
	switch {
	case !state.IsKey(key):
		return api.ErrKey
	case !context.Sound():
		return api.ErrSeen
	}
	after, errno := r.segmentOf(key)[key].Delete(context)
	return r.keep(key, after, errno)
}

// keep copies the key, as Put does the value: it may be a piece of a long text
// of the caller's, which would be kept with it.
func (r *Replica) keep(key string, after state.State, errno api.Errno) api.Errno {
	if errno == api.OK {
		r.segmentOf(key)[strings.Clone(key)] = after
	}
	return errno
}

// Get tells the versions of a key, and its context (P4).
func (r *Replica) Get(key string) ([]api.Version, api.Context, api.Errno) {
	if !state.IsKey(key) {
		return nil, api.Context{}, api.ErrKey
	}
	s := r.segmentOf(key)[key]
	return told(s.Versions), api.Context(s.Context), api.OK
}

// told is new memory throughout: what comes out is the caller's (P2).
func told(versions []state.Version) []api.Version {
	out := make([]api.Version, len(versions))
	for i, v := range versions {
		out[i] = api.Version{Replica: v.Replica, N: v.N, Value: strings.Clone(v.Value)}
	}
	return out
}

// Keys tells those that have versions (P4).
func (r *Replica) Keys() []string {
	var keys []string
	for _, in := range r.segments {
		for key, s := range in {
			if len(s.Versions) > 0 {
				keys = append(keys, strings.Clone(key))
			}
		}
	}
	slices.Sort(keys)
	return keys
}

// Segment tells the text of one (P5).
func (r *Replica) Segment(n int) (string, api.Errno) {
	if !tree.Has(tree.Segments, n) {
		return "", api.ErrPlace
	}
	return r.text(n), api.OK
}

// Digest tells that of a node (P5).
func (r *Replica) Digest(level int, n int) (uint64, api.Errno) {
	if !tree.Has(level, n) {
		return 0, api.ErrPlace
	}
	return r.digest(level, n), api.OK
}

// Hello is the letter with which it begins (P6).
func (r *Replica) Hello() string {
	return letters.Root{Digest: r.digest(tree.Root, 0)}.Text()
}

// Hear takes a letter, and answers it (P6).
func (r *Replica) Hear(letter string) (string, api.Errno) {
	heard, errno := letters.Read(letter)
	if errno != api.OK {
		return "", errno
	}
	return r.answer(heard), api.OK
}

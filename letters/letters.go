// Package letters: what replicas write to one another.
package letters

import (
	"attune/tree"
	"attune/wire"
)

// The kinds, each the first byte of its letters. Segments are told twice: as
// one has them, and by the other one as they are behind joining, which ends the
// talk.
const (
	kindRoot  = 'R'
	kindNodes = 'N'
	Had       = 'S'
	Joined    = 'T'
)

// Letter is one of Root, Nodes and Segments.
type Letter interface {
	// Text is the letter as it is sent.
	Text() string
}

// Root tells the root's digest.
type Root struct {
	Digest uint64
}

// Nodes tells of nodes of one level, by rising numbers.
type Nodes struct {
	Level int
	List  []Node
}

// Node is one with the digests of its children.
type Node struct {
	Number   int
	Children [tree.Children]uint64
}

// Segments tells of segments, by rising numbers; its kind is Had or Joined.
type Segments struct {
	Kind byte
	List []Segment
}

// Segment is one with all its records, by rising keys.
type Segment struct {
	Number  int
	Records []wire.Record
}

func (l Root) Text() string {
	return string(wire.AppendDigest([]byte{kindRoot}, l.Digest))
}

func (l Nodes) Text() string {
	out := []byte{kindNodes, byte(l.Level), byte(len(l.List))}
	for _, node := range l.List {
		out = append(out, byte(node.Number))
		for _, digest := range node.Children {
			out = wire.AppendDigest(out, digest)
		}
	}
	return string(out)
}

func (l Segments) Text() string {
	out := []byte{l.Kind, byte(len(l.List))}
	for _, s := range l.List {
		out = append(out, byte(s.Number))
		out = wire.AppendNumber(out, len(s.Records))
		out = wire.AppendRecords(out, s.Records)
	}
	return string(out)
}

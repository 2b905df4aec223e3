package tree

import (
	"sync"

	"attune/wire"
)

// The levels, from the top on.
const (
	Root = iota
	Quarters
	Sixteenths
	Segments
)

// Children are how many a node has that is no segment.
const Children = 4

// workers are how many goroutines work at most. No answer hangs on it.
const workers = 4

// Has tells whether there is such a node of that level.
func Has(level, n int) bool {
	return level >= Root && level <= Segments && n >= 0 && n < width(level)
}

// Child is the number, on the next level, of a node's child.
func Child(n, i int) int {
	return n*Children + i
}

// width is how many nodes there are that many levels below one.
func width(levels int) int {
	count := 1
	for range levels {
		count *= Children
	}
	return count
}

// Digest is that of a node that there is; text tells that of a segment, and is
// called by several goroutines at once, for the segments below the node alone.
func Digest(level, n int, text func(segment int) string) uint64 {
	count := width(Segments - level)
	digests := ofSegments(n*count, count, text)
	for len(digests) > 1 {
		digests = ofParents(digests)
	}
	return digests[0]
}

// found is a segment's digest on its way back: which one is done first is left
// to chance, so that it must say whose it is.
type found struct {
	segment int
	digest  uint64
}

// ofSegments are the digests of so many segments, from the first one on.
func ofSegments(first, count int, text func(segment int) string) []uint64 {
	// With room for all of them nobody waits for anybody but at the end.
	numbers := make(chan int, count)
	back := make(chan found, count)
	var running sync.WaitGroup
	for range min(workers, count) {
		running.Add(1)
		go func() {
			defer running.Done()
			for n := range numbers {
				back <- found{segment: n, digest: Sum(text(n))}
			}
		}()
	}
	for i := range count {
		numbers <- first + i
	}
	close(numbers)
	running.Wait()
	close(back)
	digests := make([]uint64, count)
	for f := range back {
		digests[f.segment-first] = f.digest
	}
	return digests
}

// ofParents are the digests one level up.
func ofParents(digests []uint64) []uint64 {
	parents := make([]uint64, len(digests)/Children)
	for i := range parents {
		parents[i] = ofNode(digests[i*Children : (i+1)*Children])
	}
	return parents
}

func ofNode(children []uint64) uint64 {
	var text []byte
	for _, digest := range children {
		text = wire.AppendDigest(text, digest)
	}
	return Sum(string(text))
}

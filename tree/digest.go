// Package tree: the tree of digests by which replicas find out where they differ.
package tree

// Sum is the digest of a text. Multiplying wraps round, so that of the product
// the lowest 64 bits are what is left.
func Sum(text string) uint64 {
	const start, factor uint64 = 14695981039346656037, 1099511628211
	sum := start
	for i := range len(text) {
		sum = (sum ^ uint64(text[i])) * factor
	}
	return sum
}

// SegmentOf is the number of the segment that a key is in.
func SegmentOf(key string) int {
	return int(Sum(key) % uint64(width(Segments)))
}

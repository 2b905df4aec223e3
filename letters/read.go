package letters

import (
	"attune/api"
	"attune/state"
	"attune/tree"
	"attune/wire"
)

// Read is the letter that stands in a text: ErrForm, if that is none.
func Read(text string) (Letter, api.Errno) {
	r := wire.NewReader(text)
	var told Letter
	switch kind := r.Byte(); kind {
	case kindRoot:
		told = Root{Digest: r.Digest()}
	case kindNodes:
		told = readNodes(r)
	case Had, Joined:
		told = readSegments(r, byte(kind))
	default:
		r.Must(false)
	}
	if !r.Done() {
		return nil, api.ErrForm
	}
	return told, api.OK
}

func readNodes(r *wire.Reader) Nodes {
	told := Nodes{Level: r.Byte()}
	r.Must(told.Level < tree.Segments)
	readEach(r, told.Level, func(n int) {
		node := Node{Number: n}
		for i := range node.Children {
			node.Children[i] = r.Digest()
		}
		told.List = append(told.List, node)
	})
	return told
}

func readSegments(r *wire.Reader, kind byte) Segments {
	told := Segments{Kind: kind}
	readEach(r, tree.Segments, func(n int) {
		told.List = append(told.List, Segment{Number: n, Records: readRecords(r, n)})
	})
	return told
}

// readEach reads how many nodes of a level there are, and of each its number;
// rest reads what stands behind that.
func readEach(r *wire.Reader, level int, rest func(n int)) {
	count := r.Byte()
	r.Must(count >= 1 && count <= api.Segments)
	last := -1
	for i := 0; i < count && !r.Failed(); i++ {
		n := r.Byte()
		r.Must(n > last && tree.Has(level, n))
		rest(n)
		last = n
	}
}

// readRecords reads those of a segment.
func readRecords(r *wire.Reader, segment int) []wire.Record {
	var records []wire.Record
	count := r.Number()
	last := ""
	for i := 0; i < count && !r.Failed(); i++ {
		record := r.Record()
		r.Must(record.Key > last && isOf(record, segment))
		records = append(records, record)
		last = record.Key
	}
	return records
}

// isOf tells whether a record may stand in that segment.
func isOf(record wire.Record, segment int) bool {
	return state.IsKey(record.Key) && tree.SegmentOf(record.Key) == segment && record.Sound()
}

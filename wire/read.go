package wire

import (
	"strings"

	"attune/state"
)

// Reader takes a text apart, from its start on. Once something was missing or
// wrong it has failed for good: all that is read then is nought or empty, so
// that whoever reads need not ask behind each piece.
type Reader struct {
	left   string
	failed bool
}

// NewReader begins at the start of a text.
func NewReader(text string) *Reader {
	return &Reader{left: text}
}

// Must makes it fail where something that has to hold does not.
func (r *Reader) Must(holds bool) {
	if !holds {
		r.failed = true
	}
}

// Failed tells whether something was missing or wrong.
func (r *Reader) Failed() bool {
	return r.failed
}

// Done tells whether the whole text was read, and nothing was wrong with it.
func (r *Reader) Done() bool {
	return !r.failed && r.left == ""
}

// Byte reads a number that has one byte.
func (r *Reader) Byte() int {
	return int(r.high(1))
}

// Number reads one that has four.
func (r *Reader) Number() int {
	return int(r.high(4))
}

// Digest reads one.
func (r *Reader) Digest() uint64 {
	return r.high(8)
}

// Record reads one as it stands there: whether it may be one is for others to
// ask.
func (r *Reader) Record() Record {
	out := Record{Key: r.text()}
	for i := range out.Context {
		out.Context[i] = r.Number()
	}
	count := r.Number()
	// How many there are is what the letter says: room is made for those alone
	// that it has.
	for i := 0; i < count && !r.failed; i++ {
		out.Versions = append(out.Versions, r.version())
	}
	return out
}

func (r *Reader) version() state.Version {
	dot := state.Dot{Replica: r.Byte(), N: r.Number()}
	return state.Version{Dot: dot, Value: r.text()}
}

// text is a copy: it is kept, and must not keep the whole letter with it.
func (r *Reader) text() string {
	return strings.Clone(r.take(r.Byte()))
}

// high reads a number of so many bytes, the highest first.
func (r *Reader) high(bytes int) uint64 {
	var n uint64
	piece := r.take(bytes)
	for i := range len(piece) {
		n = n<<8 | uint64(piece[i])
	}
	return n
}

func (r *Reader) take(bytes int) string {
	r.Must(bytes <= len(r.left))
	if r.failed {
		return ""
	}
	piece := r.left[:bytes]
	r.left = r.left[bytes:]
	return piece
}

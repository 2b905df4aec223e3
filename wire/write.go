// Package wire: how numbers, digests and records stand in bytes.
package wire

import "attune/state"

// AppendNumber adds a number in four bytes, the highest first.
func AppendNumber(out []byte, n int) []byte {
	return append(out, byte(n>>24), byte(n>>16), byte(n>>8), byte(n))
}

// AppendDigest adds a digest in eight bytes, the highest first.
func AppendDigest(out []byte, digest uint64) []byte {
	for shift := 56; shift >= 0; shift -= 8 {
		out = append(out, byte(digest>>shift))
	}
	return out
}

// appendText adds a key or a value: neither is longer than one byte can tell.
func appendText(out []byte, text string) []byte {
	out = append(out, byte(len(text)))
	return append(out, text...)
}

// Record is a known key with its state.
type Record struct {
	Key string
	state.State
}

// AppendRecords adds the bytes of each, in their order.
func AppendRecords(out []byte, records []Record) []byte {
	for _, r := range records {
		out = r.appendTo(out)
	}
	return out
}

func (r Record) appendTo(out []byte) []byte {
	out = appendText(out, r.Key)
	for _, n := range r.Context {
		out = AppendNumber(out, n)
	}
	out = AppendNumber(out, len(r.Versions))
	for _, v := range r.Versions {
		out = append(out, byte(v.Replica))
		out = AppendNumber(out, v.N)
		out = appendText(out, v.Value)
	}
	return out
}

package wire

import (
	"reflect"
	"runtime"
	"strings"
	"testing"
	"unsafe"

	"attune/state"
)

func TestReadNumbers(t *testing.T) {
	r := NewReader("\x00\x7f\xff" + "\x00\x0f\x42\x40" + "\x12\x34\x56\x78" + "\xff\xff\xff\xff" + "\xcb\xf2\x9c\xe4\x84\x22\x23\x25")
	for _, want := range []int{0, 127, 255} {
		if got := r.Byte(); got != want {
			t.Errorf("P6: a byte: %d, want %d", got, want)
		}
	}
	for _, want := range []int{1000000, 0x12345678, 1<<32 - 1} {
		if got := r.Number(); got != want {
			t.Errorf("P6: a number: %d, want %d", got, want)
		}
	}
	if r.Done() || r.Failed() {
		t.Error("P6: a reader is done ahead of the end, or failed")
	}
	if got := r.Digest(); got != 14695981039346656037 {
		t.Errorf("P6: a digest: %d", got)
	}
	if !r.Done() || r.Failed() {
		t.Error("P6: a reader is not done at the end, or failed")
	}
}

// TestReadTooMuch: what is missing fails for good, and nothing is read then.
func TestReadTooMuch(t *testing.T) {
	for name, read := range map[string]func(r *Reader) bool{
		"a byte":   func(r *Reader) bool { r.Number(); r.Number(); return r.Byte() == 0 },
		"a number": func(r *Reader) bool { r.Number(); r.Byte(); return r.Number() == 0 },
		"a digest": func(r *Reader) bool { r.Byte(); return r.Digest() == 0 },
		"a record": func(r *Reader) bool { rec := r.Record(); return rec.Key == "" && len(rec.Versions) == 0 },
	} {
		r := NewReader("\x08\x01\x01\x01\x01\x01\x01\x01")
		if !read(r) || !r.Failed() || r.Done() {
			t.Errorf("P1: reading %s that is not there: failed %v, done %v", name, r.Failed(), r.Done())
		}
		if r.Byte() != 0 || r.Number() != 0 || r.Digest() != 0 || r.Done() {
			t.Errorf("P1: behind reading %s that is not there something is read", name)
		}
	}
}

func TestMust(t *testing.T) {
	r := NewReader("")
	if r.Must(true); r.Failed() || !r.Done() {
		t.Error("P6: what holds made a reader fail")
	}
	r.Must(false)
	if r.Must(true); !r.Failed() || r.Done() {
		t.Error("P6: a reader that failed has not failed for good")
	}
}

// some are records of all kinds, sound and not: the reader asks for neither.
func some() []Record {
	return []Record{
		{Key: "zz", State: state.State{Context: state.Context{0, 1, 258, 0}}},
		{Key: "a", State: state.State{Context: state.Context{3}, Versions: []state.Version{v(0, 3, "")}}},
		{Key: "abcdefgh", State: state.State{
			Context:  state.Context{1, 2, 0, 1000000},
			Versions: []state.Version{v(0, 1, "x"), v(1, 1, "\x00\xff"), v(1, 2, "z"), v(3, 1000000, "123456789012")}}},
		{Key: "", State: state.State{Context: state.Context{1 << 31}, Versions: []state.Version{v(255, 1<<32-1, "1234567890123"), v(0, 0, "")}}},
		{Key: strings.Repeat("K", 255), State: state.State{Versions: []state.Version{v(0, 0, strings.Repeat("v", 255))}}},
	}
}

func TestReadRecords(t *testing.T) {
	r := NewReader(string(AppendRecords(nil, some())))
	for _, want := range some() {
		if got := r.Record(); !reflect.DeepEqual(got, want) {
			t.Errorf("P6: a record: %v, want %v", got, want)
		}
	}
	if !r.Done() {
		t.Error("P6: records leave something behind")
	}
}

func TestReadRecordsCutShort(t *testing.T) {
	for _, record := range some() {
		text := string(AppendRecords(nil, []Record{record}))
		for i := range text {
			r := NewReader(text[:i])
			if r.Record(); !r.Failed() || r.Done() {
				t.Errorf("P1: the first %d bytes of %.40q are a record", i, text)
			}
		}
	}
}

// TestReadCopies: what was read holds nothing of the text that it was read from.
func TestReadCopies(t *testing.T) {
	text := string(AppendRecords(nil, some()))
	start := uintptr(unsafe.Pointer(unsafe.StringData(text)))
	shares := func(piece string) bool {
		at := uintptr(unsafe.Pointer(unsafe.StringData(piece)))
		return piece != "" && at >= start && at < start+uintptr(len(text))
	}
	r := NewReader(text)
	for range some() {
		record := r.Record()
		if shares(record.Key) {
			t.Errorf("P2: the key %.20q is a piece of the text", record.Key)
		}
		for _, v := range record.Versions {
			if shares(v.Value) {
				t.Errorf("P2: the value %.20q is a piece of the text", v.Value)
			}
		}
	}
	runtime.KeepAlive(text)
}

// TestReadMakesNoRoomAhead: a record may say that it has any number of versions.
func TestReadMakesNoRoomAhead(t *testing.T) {
	text := "\x01a" + strings.Repeat("\x00", 16) + "\xff\xff\xff\xff" + "\x00\x00\x00\x00\x01\x00"
	var before, after runtime.MemStats
	runtime.ReadMemStats(&before)
	r := NewReader(text)
	if r.Record(); !r.Failed() {
		t.Error("P1: versions that are not there were read")
	}
	runtime.ReadMemStats(&after)
	if made := after.TotalAlloc - before.TotalAlloc; made > 1<<20 {
		t.Errorf("P1: %d bytes of memory for a text of %d", made, len(text))
	}
}

package letters

import (
	"reflect"
	"strings"
	"testing"

	"attune/api"
	"attune/state"
	"attune/tree"
	"attune/wire"
)

func v(replica, n int, value string) state.Version {
	return state.Version{Dot: state.Dot{Replica: replica, N: n}, Value: value}
}

func rec(key string, context state.Context, versions ...state.Version) wire.Record {
	return wire.Record{Key: key, State: state.State{Context: context, Versions: versions}}
}

// one is a segment with these records, which are all of it.
func one(records ...wire.Record) Segment {
	return Segment{Number: tree.SegmentOf(records[0].Key), Records: records}
}

// neighbours are keys of one segment, by rising bytes.
func neighbours(t *testing.T, count int) []string {
	t.Helper()
	var out []string
	for a := byte('a'); a <= 'z'; a++ {
		for b := byte('a'); b <= 'z'; b++ {
			if key := string([]byte{a, b}); tree.SegmentOf(key) == 20 && len(out) < count {
				out = append(out, key)
			}
		}
	}
	if len(out) < count {
		t.Fatalf("the test is wrong: %q", out)
	}
	return out
}

const nought = "\x00\x00\x00\x00"

func TestText(t *testing.T) {
	eight := func(b string) string { return strings.Repeat(b, 8) }
	for _, c := range []struct {
		Letter
		want string
	}{
		{Root{0}, "R" + eight("\x00")},
		{Root{0x123456789abcdef0}, "R\x12\x34\x56\x78\x9a\xbc\xde\xf0"},
		{Root{1<<64 - 1}, "R" + eight("\xff")},
		{Nodes{Level: 0, List: []Node{{0, [4]uint64{0, 1<<64 - 1, 0x4141414141414141, 0x4242424242424242}}}},
			"N\x00\x01" + "\x00" + eight("\x00") + eight("\xff") + eight("A") + eight("B")},
		{Nodes{Level: 2, List: []Node{{3, [4]uint64{}}, {15, [4]uint64{0x4141414141414141}}}},
			"N\x02\x02" + "\x03" + eight(nought) + "\x0f" + eight("A") + eight("\x00") + eight("\x00") + eight("\x00")},
		{Segments{Kind: Had, List: []Segment{{Number: 0}, {Number: 63}}}, "S\x02" + "\x00" + nought + "\x3f" + nought},
		{Segments{Kind: Joined, List: []Segment{{Number: 5}}}, "T\x01\x05" + nought},
		{Segments{Kind: Had, List: []Segment{one(rec("a", state.Context{1, 0, 0, 2}, v(0, 1, "x"), v(3, 2, "")))}},
			"S\x01\x0c\x00\x00\x00\x01" + "\x01a" + "\x00\x00\x00\x01" + nought + nought + "\x00\x00\x00\x02" + "\x00\x00\x00\x02" +
				"\x00\x00\x00\x00\x01\x01x" + "\x03\x00\x00\x00\x02\x00"},
	} {
		if got := c.Text(); got != c.want {
			t.Errorf("P6: the letter %v: %q, want %q", c.Letter, got, c.want)
		}
	}
}

// good are letters of all kinds.
func good(t *testing.T) []Letter {
	t.Helper()
	near := neighbours(t, 3)
	full := Nodes{Level: 2}
	for n := range 16 {
		full.List = append(full.List, Node{Number: n, Children: [4]uint64{uint64(n), 2, 3, 1 << 63}})
	}
	empty := Segments{Kind: Joined}
	for n := range 64 {
		empty.List = append(empty.List, Segment{Number: n})
	}
	crowd := rec("k", state.Context{0, 0, 300})
	for n := range 300 {
		crowd.Versions = append(crowd.Versions, v(2, n+1, "c"))
	}
	several := one(
		rec(near[0], state.Context{1, 2, 3, 1000000}, v(0, 1, ""), v(1, 1, "\x00\xff"), v(1, 2, "z"), v(3, 1000000, "123456789012")),
		rec(near[1], state.Context{0, 0, 0, 1}),
		rec(near[2], state.Context{1000000, 1000000, 1000000, 1000000}))
	return []Letter{
		Root{}, Root{14695981039346656037}, Root{1<<64 - 1},
		Nodes{Level: 0, List: []Node{{0, [4]uint64{1, 2, 3, 4}}}},
		Nodes{Level: 1, List: []Node{{0, [4]uint64{}}, {3, [4]uint64{1 << 63}}}},
		Nodes{Level: 1, List: []Node{{0, [4]uint64{}}, {1, [4]uint64{}}, {2, [4]uint64{}}, {3, [4]uint64{}}}},
		full,
		Segments{Kind: Had, List: []Segment{{Number: 0}}},
		Segments{Kind: Had, List: []Segment{{Number: 62}, {Number: 63}}},
		empty,
		Segments{Kind: Had, List: []Segment{{Number: 3}, several, {Number: 40}}},
		Segments{Kind: Joined, List: []Segment{several}},
		Segments{Kind: Joined, List: []Segment{one(crowd)}},
		Segments{Kind: Had, List: []Segment{one(rec("abcdefgh", state.Context{1}, v(0, 1, "v")))}},
	}
}

func TestRead(t *testing.T) {
	for _, want := range good(t) {
		if got, e := Read(want.Text()); !reflect.DeepEqual(got, want) || e != api.OK {
			t.Errorf("P6: reading %.60q: %v, %d, want %v", want.Text(), got, e, want)
		}
	}
}

// wrong: a text that is no letter.
func wrong(t *testing.T, name, text string) {
	t.Helper()
	if got, e := Read(text); got != nil || e != api.ErrForm {
		t.Errorf("P6: %s: reading %.60q: %v, %d", name, text, got, e)
	}
}

func TestReadCutShortOrLengthened(t *testing.T) {
	for _, l := range good(t) {
		text := l.Text()
		for i := range text {
			wrong(t, "cut short", text[:i])
		}
		for _, more := range []string{"\x00", "\x01", "a", "\xff", nought, text} {
			wrong(t, "lengthened", text+more)
			wrong(t, "lengthened in front", more+text)
		}
	}
}

// TestReadKinds gives every first byte to a text that is a letter with some.
func TestReadKinds(t *testing.T) {
	for _, c := range []struct{ rest, kinds string }{
		{"12345678", "R"},
		{"\x00\x01\x00" + strings.Repeat("d", 32), "N"},
		{"\x01\x00" + nought, "ST"},
	} {
		for b := range 256 {
			kind := string([]byte{byte(b)})
			if strings.Contains(c.kinds, kind) {
				if _, e := Read(kind + c.rest); e != api.OK {
					t.Errorf("P6: reading %q: %d", kind+c.rest, e)
				}
				continue
			}
			wrong(t, "another kind", kind+c.rest)
		}
	}
	wrong(t, "no byte", "")
}

// nodes is an N of such nodes, as a text.
func nodes(level int, count int, numbers ...int) string {
	out := "N" + string([]byte{byte(level), byte(count)})
	for _, n := range numbers {
		out += string([]byte{byte(n)}) + strings.Repeat("d", 32)
	}
	return out
}

func TestReadNodes(t *testing.T) {
	for level, wide := range []int{1, 4, 16, 0, 0} {
		for n := range 256 {
			if n < wide {
				if _, e := Read(nodes(level, 1, n)); e != api.OK {
					t.Errorf("P6: an N with %d of level %d: %d", n, level, e)
				}
				continue
			}
			wrong(t, "no such node", nodes(level, 1, n))
		}
	}
	for level := 3; level < 256; level++ {
		wrong(t, "no such level", nodes(level, 1, 0))
	}
	wrong(t, "no node", nodes(0, 0))
	wrong(t, "one twice", nodes(0, 2, 0, 0))
	wrong(t, "one twice", nodes(1, 2, 3, 3))
	wrong(t, "falling", nodes(1, 2, 1, 0))
	wrong(t, "falling at the end", nodes(2, 4, 1, 5, 7, 6))
	wrong(t, "no such node at the end", nodes(2, 4, 1, 5, 7, 16))
	wrong(t, "fewer than told", nodes(2, 3, 1, 5))
	wrong(t, "more than told", nodes(2, 1, 1, 5))
	wrong(t, "more than there are", nodes(1, 5, 0, 1, 2, 3, 4))
}

// segments is an S of such empty segments, as a text.
func segments(count int, numbers ...int) string {
	out := "S" + string([]byte{byte(count)})
	for _, n := range numbers {
		out += string([]byte{byte(n)}) + nought
	}
	return out
}

func TestReadSegments(t *testing.T) {
	var all []int
	for n := range 256 {
		if n < 64 {
			all = append(all, n)
			continue
		}
		wrong(t, "no such segment", segments(1, n))
		wrong(t, "no such segment", segments(2, 3, n))
	}
	if _, e := Read(segments(64, all...)); e != api.OK {
		t.Errorf("P6: an S with all segments: %d", e)
	}
	wrong(t, "no segment", segments(0))
	wrong(t, "no segment, but one stands there", segments(0, 0))
	wrong(t, "one twice", segments(2, 7, 7))
	wrong(t, "falling", segments(2, 7, 6))
	wrong(t, "falling at the end", segments(4, 1, 5, 7, 6))
	wrong(t, "65", segments(65, append(all, 64)...))
	wrong(t, "65, one twice", segments(65, append(all, 63)...))
	for count := 2; count < 256; count++ {
		wrong(t, "fewer than told", segments(count, 7))
	}
}

// TestReadRecords: each of these is alone in a letter that would be one without it.
func TestReadRecords(t *testing.T) {
	near := neighbours(t, 3)
	told := func(number int, records ...wire.Record) string {
		return Segments{Kind: Had, List: []Segment{{Number: number, Records: records}}}.Text()
	}
	seen := state.Context{5, 5, 5, 5}
	all := state.Context{1: 1}
	for _, c := range []struct {
		name    string
		records []wire.Record
	}{
		{"not known", []wire.Record{rec("a", state.Context{})}},
		{"not known, with a version", []wire.Record{rec("a", state.Context{}, v(0, 1, "x"))}},
		{"an empty key", []wire.Record{rec("", seen)}},
		{"a key of capitals", []wire.Record{rec("A", seen)}},
		{"a key with a blank", []wire.Record{rec("a ", seen)}},
		{"a key with a nought", []wire.Record{rec("a\x00", seen)}},
		{"a key ahead of a", []wire.Record{rec("`", seen)}},
		{"a key behind z", []wire.Record{rec("{", seen)}},
		{"a key of nine bytes", []wire.Record{rec("abcdefghi", seen)}},
		{"a key of 255 bytes", []wire.Record{rec(strings.Repeat("a", 255), seen)}},
		{"a context over MaxCount, first", []wire.Record{rec("a", state.Context{0: api.MaxCount + 1})}},
		{"a context over MaxCount, last", []wire.Record{rec("a", state.Context{3: api.MaxCount + 1})}},
		{"a context far over MaxCount", []wire.Record{rec("a", state.Context{1: 1<<32 - 1})}},
		{"a context over MaxCount by a version", []wire.Record{rec("a", state.Context{1: api.MaxCount + 1}, v(1, api.MaxCount+1, "x"))}},
		{"a dot that was not seen", []wire.Record{rec("a", all, v(1, 2, "x"))}},
		{"a dot of another one that was not seen", []wire.Record{rec("a", all, v(0, 1, "x"))}},
		{"a dot over MaxCount", []wire.Record{rec("a", state.Context{api.MaxCount}, v(0, api.MaxCount+1, "x"))}},
		{"a dot with the number nought", []wire.Record{rec("a", seen, v(0, 0, "x"))}},
		{"a dot of no replica", []wire.Record{rec("a", seen, v(4, 1, "x"))}},
		{"a dot of no replica, far off", []wire.Record{rec("a", seen, v(255, 1, "x"))}},
		{"a value of 13 bytes", []wire.Record{rec("a", seen, v(0, 1, "1234567890123"))}},
		{"a value of 255 bytes", []wire.Record{rec("a", seen, v(0, 1, strings.Repeat("v", 255)))}},
		{"numbers out of order", []wire.Record{rec("a", seen, v(0, 2, ""), v(0, 1, ""))}},
		{"replicas out of order", []wire.Record{rec("a", seen, v(1, 1, ""), v(0, 2, ""))}},
		{"a version twice", []wire.Record{rec("a", seen, v(1, 1, ""), v(1, 1, ""))}},
		{"a dot twice", []wire.Record{rec("a", seen, v(1, 1, "x"), v(1, 1, "y"))}},
		{"a key twice", []wire.Record{rec("a", seen), rec("a", seen)}},
		{"keys that fall", []wire.Record{rec(near[1], seen), rec(near[0], seen)}},
		{"keys that fall at the end", []wire.Record{rec(near[0], seen), rec(near[2], seen), rec(near[1], seen)}},
		{"a key of another segment", []wire.Record{rec(near[0], seen), rec("zz", seen)}},
		{"a bad one at the end", []wire.Record{rec(near[0], seen), rec(near[1], state.Context{})}},
		{"a bad one at the start", []wire.Record{rec(near[0], state.Context{}), rec(near[1], seen)}},
	} {
		number := tree.SegmentOf(c.records[0].Key)
		wrong(t, c.name, told(number, c.records...))
		beside := Segments{Kind: Joined, List: []Segment{{Number: number, Records: c.records}}}
		if number > 0 {
			beside.List = append([]Segment{{Number: 0}}, beside.List...)
		}
		wrong(t, c.name+", in a T, behind another segment", beside.Text())
	}
	for n := range 64 {
		_, e := Read(told(n, rec("a", seen)))
		if want := n == tree.SegmentOf("a"); (e == api.OK) != want {
			t.Errorf("P6: a record of the key a in segment %d: %d", n, e)
		}
	}
}

// TestReadCounts: other numbers of records or versions than there are.
func TestReadCounts(t *testing.T) {
	record := "\x01a" + "\x00\x00\x00\x05" + nought + nought + nought
	version := "\x00\x00\x00\x00\x05\x01x"
	for _, count := range []string{nought, "\x00\x00\x00\x02", "\x00\x00\x01\x01", "\x00\x01\x00\x01", "\x01\x00\x00\x01", "\x7f\xff\xff\xff", "\x80\x00\x00\x01", "\xff\xff\xff\xff"} {
		wrong(t, "another number of records", "S\x01\x0c"+count+record+"\x00\x00\x00\x01"+version)
		wrong(t, "another number of versions", "S\x01\x0c\x00\x00\x00\x01"+record+count+version)
	}
	if _, e := Read("S\x01\x0c\x00\x00\x00\x01" + record + "\x00\x00\x00\x01" + version); e != api.OK {
		t.Errorf("the test is wrong: %d", e)
	}
}

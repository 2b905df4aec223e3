package attune_test

import (
	"encoding/binary"
	"fmt"
	"hash/fnv"
	"math"
	"slices"
	"strings"
	"testing"

	"attune/api"
	"attune/attune"
)

// sum is the digest of a text in another way than the program's.
func sum(text string) uint64 {
	h := fnv.New64a()
	h.Write([]byte(text))
	return h.Sum64()
}

func segmentOf(key string) int { return int(sum(key) % 64) }

// number is four bytes.
func number(n int) string {
	return string(binary.BigEndian.AppendUint32(nil, uint32(n)))
}

// eight is a digest's bytes.
func eight(d uint64) string {
	return string(binary.BigEndian.AppendUint64(nil, d))
}

// record is that of a key by what Get tells, and nothing if it is not known.
func record(r *attune.Replica, key string) string {
	versions, context, _ := r.Get(key)
	if len(versions) == 0 && context == (api.Context{}) {
		return ""
	}
	return recordOf(key, context, versions...)
}

// recordOf is a record's bytes, whatever may be wrong with it.
func recordOf(key string, context api.Context, versions ...api.Version) string {
	var out strings.Builder
	out.WriteString(string([]byte{byte(len(key))}) + key)
	for _, n := range context {
		out.WriteString(number(n))
	}
	out.WriteString(number(len(versions)))
	for _, v := range versions {
		out.WriteString(string([]byte{byte(v.Replica)}) + number(v.N) + string([]byte{byte(len(v.Value))}) + v.Value)
	}
	return out.String()
}

// texts are those of all segments, of a replica that knows none but these keys.
func texts(r *attune.Replica, keys ...string) [64]string {
	var out [64]string
	keys = slices.Clone(keys)
	slices.Sort(keys)
	for _, key := range slices.Compact(keys) {
		out[segmentOf(key)] += record(r, key)
	}
	return out
}

// levels are the digests of all levels from the texts of the segments.
func levels(texts [64]string) [4][]uint64 {
	var out [4][]uint64
	for _, s := range texts {
		out[3] = append(out[3], sum(s))
	}
	for level := 2; level >= 0; level-- {
		for four := range slices.Chunk(out[level+1], 4) {
			out[level] = append(out[level], sum(eight(four[0])+eight(four[1])+eight(four[2])+eight(four[3])))
		}
	}
	return out
}

// tree holds all of Segment, Digest and Hello against the texts that they must be of.
func tree(t *testing.T, r *attune.Replica, want [64]string) {
	t.Helper()
	for n := range want {
		if got, e := r.Segment(n); got != want[n] || e != api.OK {
			t.Fatalf("P5: Segment(%d): %q, %d, want %q", n, got, e, want[n])
		}
	}
	digests := levels(want)
	for level, wide := range []int{1, 4, 16, 64} {
		for n := range wide {
			if got, e := r.Digest(level, n); got != digests[level][n] || e != api.OK {
				t.Fatalf("P5: Digest(%d, %d): %d, %d, want %d", level, n, got, e, digests[level][n])
			}
		}
	}
	if got, want := r.Hello(), "R"+eight(digests[0][0]); got != want {
		t.Fatalf("P6: Hello(): %q, want %q", got, want)
	}
}

// ofOneSegment are keys that are in the segment of the first one, by rising bytes.
func ofOneSegment(first string, count int) []string {
	out := []string{first}
	for a := 'a'; a <= 'z'; a++ {
		for b := 'a'; b <= 'z'; b++ {
			for _, key := range []string{string([]rune{a, b}), string([]rune{a, b, a})} {
				if len(out) < count && key != first && segmentOf(key) == segmentOf(first) {
					out = append(out, key)
				}
			}
		}
	}
	slices.Sort(out)
	return out
}

func TestTreeOfNothing(t *testing.T) {
	for n := range api.Replicas {
		tree(t, made(t, n), [64]string{})
	}
	r := made(t, 0)
	if d, _ := r.Digest(3, 63); d != 14695981039346656037 {
		t.Errorf("P5: the digest of an empty segment: %d", d)
	}
}

// TestSegmentInBytes tells texts byte by byte.
func TestSegmentInBytes(t *testing.T) {
	r := made(t, 1)
	is(t, "P4: Put", r.Put("a", "x", api.Context{}), api.OK)
	is(t, "P4: Put", r.Put("a", "yy", api.Context{3}), api.OK)
	want := [64]string{}
	want[segmentOf("a")] = "\x01a" + "\x00\x00\x00\x03" + "\x00\x00\x00\x02" + "\x00\x00\x00\x00" + "\x00\x00\x00\x00" +
		"\x00\x00\x00\x02" + "\x01\x00\x00\x00\x01\x01x" + "\x01\x00\x00\x00\x02\x02yy"
	tree(t, r, want)
	is(t, "P4: Put", r.Put("abcdefgh", "", api.Context{}), api.OK)
	is(t, "P4: Delete", r.Delete("abcdefgh", api.Context{0, 1, 258, api.MaxCount}), api.OK)
	want[segmentOf("abcdefgh")] += "\x08abcdefgh" + "\x00\x00\x00\x00" + "\x00\x00\x00\x01" + "\x00\x00\x01\x02" + "\x00\x0f\x42\x40" + "\x00\x00\x00\x00"
	tree(t, r, want)
}

// TestSegmentOfValues: of each length, and with each byte.
func TestSegmentOfValues(t *testing.T) {
	for length := range api.MaxValue + 1 {
		r := made(t, 2)
		for _, b := range []string{"\x00", "v", "\xff", "\n"} {
			is(t, "P4: Put", r.Put("k", strings.Repeat(b, length), api.Context{}), api.OK)
		}
		tree(t, r, texts(r, "k"))
	}
	for b := range 256 {
		r := made(t, 3)
		value := string([]byte{byte(b), 'v', byte(255 - b)})
		is(t, "P4: Put", r.Put("k", value, api.Context{}), api.OK)
		text, _ := r.Segment(segmentOf("k"))
		if want := "\x03\x00\x00\x00\x01\x03" + value; !strings.HasSuffix(text, want) {
			t.Errorf("P5: Segment with the value %q: %q", value, text)
		}
	}
}

// TestSegmentOfSeveralKeys writes the keys of one segment in other orders.
func TestSegmentOfSeveralKeys(t *testing.T) {
	list := ofOneSegment("ab", 6)
	if len(list) != 6 {
		t.Fatalf("the test is wrong: %q", list)
	}
	var first string
	for turn := range list {
		r := made(t, 0)
		for i := range list {
			key := list[(i*5+turn)%len(list)]
			is(t, "P4: Put", r.Put(key, "v", api.Context{}), api.OK)
			tree(t, r, texts(r, list...))
		}
		is(t, "P4: Delete", r.Delete(list[2], api.Context{1}), api.OK)
		tree(t, r, texts(r, list...))
		text, _ := r.Segment(segmentOf("ab"))
		if turn == 0 {
			first = text
		}
		if text != first {
			t.Errorf("P2: Segment hangs on the order of writes: %q, want %q", text, first)
		}
	}
}

// TestTreeOfManyKeys fills every segment.
func TestTreeOfManyKeys(t *testing.T) {
	for n := range api.Replicas {
		r := made(t, n)
		var list []string
		for a := 'a'; a <= 'z'; a++ {
			for b := 'a'; b <= 'z'; b++ {
				short := string([]rune{a, b})
				for _, key := range []string{short, strings.Repeat(short, 2+int(a+b)%3)} {
					list = append(list, key)
					is(t, "P4: Put", r.Put(key, fmt.Sprint(a*b), api.Context{0, 0, int(a)}), api.OK)
				}
			}
		}
		want := texts(r, list...)
		if slices.Contains(want[:], "") {
			t.Fatal("the test is wrong: a segment is empty")
		}
		tree(t, r, want)
	}
}

// TestTreeBehindWrites: a write changes the digests on the way from the key's
// segment to the root, and no others; a write that is refused changes none.
func TestTreeBehindWrites(t *testing.T) {
	r := made(t, 1)
	var list []string
	for a := 'a'; a <= 'z'; a++ {
		key := string(a)
		list = append(list, key)
		before := digests(t, r)
		is(t, "P4: Put", r.Put(key, "v", api.Context{}), api.OK)
		onTheWay(t, before, digests(t, r), segmentOf(key))
		tree(t, r, texts(r, list...))

		before = digests(t, r)
		is(t, "P4: Delete", r.Delete(key, api.Context{}), api.ErrNone)
		is(t, "P4: Put", r.Put(key, "v", api.Context{0, api.MaxCount}), api.ErrLimit)
		is(t, "P4: Put", r.Put(key+"a", "1234567890123", api.Context{}), api.ErrValue)
		if after := digests(t, r); fmt.Sprint(after) != fmt.Sprint(before) {
			t.Errorf("P1: a write that was refused changed digests")
		}

		is(t, "P4: Delete", r.Delete(key, api.Context{0, 1}), api.OK)
		onTheWay(t, before, digests(t, r), segmentOf(key))
		tree(t, r, texts(r, list...))
	}
	keys(t, r)
}

func digests(t *testing.T, r *attune.Replica) [4][]uint64 {
	t.Helper()
	var out [4][]uint64
	for level, wide := range []int{1, 4, 16, 64} {
		for n := range wide {
			d, e := r.Digest(level, n)
			is(t, "P5: Digest", e, api.OK)
			out[level] = append(out[level], d)
		}
	}
	return out
}

func onTheWay(t *testing.T, before, after [4][]uint64, segment int) {
	t.Helper()
	for level := 3; level >= 0; level-- {
		for n := range before[level] {
			if changed := before[level][n] != after[level][n]; changed != (n == segment) {
				t.Errorf("P5: behind a write to segment %d the digest %d of level %d is another one: %v", segment, n, level, changed)
			}
		}
		segment /= 4
	}
}

func TestPlacesThatAreNone(t *testing.T) {
	r := made(t, 0)
	is(t, "P4: Put", r.Put("a", "x", api.Context{}), api.OK)
	is(t, "P4: Put", r.Put("b", "y", api.Context{}), api.OK)
	is(t, "P4: Delete", r.Delete("b", api.Context{1}), api.OK)
	want := texts(r, "a", "b")
	before := whole(r, "a", "b")
	far := []int{-1, -2, -64, 64, 65, 256, 1 << 32, math.MaxInt, math.MinInt, math.MinInt + 1}
	for _, n := range far {
		if s, e := r.Segment(n); s != "" || e != api.ErrPlace {
			t.Errorf("P5: Segment(%d): %q, %d", n, s, e)
		}
	}
	for level, wide := range []int{1, 4, 16, 64} {
		for _, n := range append(far, wide, wide+1, 4*wide-1, 4*wide) {
			if n < 0 || n >= wide {
				noPlace(t, r, level, n)
			}
		}
	}
	for _, level := range []int{-1, -3, 4, 5, 6, 31, 32, 64, 1 << 32, math.MaxInt, math.MinInt} {
		for _, n := range append(far, 0, 1, 3, 63) {
			noPlace(t, r, level, n)
		}
	}
	tree(t, r, want)
	if after := whole(r, "a", "b"); after != before {
		t.Errorf("P1: errors changed %s to %s", before, after)
	}
}

func noPlace(t *testing.T, r *attune.Replica, level, n int) {
	t.Helper()
	if d, e := r.Digest(level, n); d != 0 || e != api.ErrPlace {
		t.Errorf("P5: Digest(%d, %d): %d, %d", level, n, d, e)
	}
}

// TestTreeAsksChangeNothing asks often, and then writes on.
func TestTreeAsksChangeNothing(t *testing.T) {
	asked, left := made(t, 0), made(t, 0)
	list := ofOneSegment("a", 4)
	for i, key := range append(list, "z", "a", "zz") {
		value := fmt.Sprint(i)
		is(t, "P4: Put", asked.Put(key, value, api.Context{}), api.OK)
		is(t, "P4: Put", left.Put(key, value, api.Context{}), api.OK)
		for range 3 {
			tree(t, asked, texts(asked, append(list, "z", "zz")...))
		}
	}
	all := append(list, "z", "zz", "notknown")
	if got, want := whole(asked, all...), whole(left, all...); got != want {
		t.Errorf("P2: Segment, Digest or Hello changed %s to %s", want, got)
	}
	tree(t, left, texts(asked, all...))
}

// TestGetMakesNoKeyKnown: asking for a key that is not known leaves no record.
func TestGetMakesNoKeyKnown(t *testing.T) {
	r := made(t, 0)
	r.Get("a")
	r.Delete("a", api.Context{1, 1, 1, 1})
	r.Put("a", "x", api.Context{api.MaxCount})
	tree(t, r, [64]string{})
}

func TestTreesKnowNothingOfOneAnother(t *testing.T) {
	first, second := made(t, 0), made(t, 0)
	is(t, "P4: Put", first.Put("a", "x", api.Context{}), api.OK)
	tree(t, second, [64]string{})
	held, _ := first.Segment(segmentOf("a"))
	want := texts(first, "a")
	is(t, "P4: Put", second.Put("a", "other", api.Context{5}), api.OK)
	is(t, "P4: Put", second.Put("b", "other", api.Context{}), api.OK)
	tree(t, first, want)
	tree(t, second, texts(second, "a", "b"))
	is(t, "P4: Put", first.Put("a", "y", api.Context{1}), api.OK)
	if held != want[segmentOf("a")] {
		t.Errorf("P2: a later Put changed an answer of Segment: %q", held)
	}
}

package attune_test

import (
	"math/rand"
	"strings"
	"testing"

	"attune/api"
	"attune/attune"
)

// refuses gives a text to a replica that is no letter.
func refuses(t *testing.T, r *attune.Replica, name, text string) {
	t.Helper()
	if got, e := r.Hear(text); got != "" || e != api.ErrForm {
		t.Errorf("P6: Hear, %s, %.80q: %q, %d", name, text, got, e)
	}
}

// TestHearOfNoLetter: what is none is refused whole, however much of it is good.
func TestHearOfNoLetter(t *testing.T) {
	r, list := some(t, 0, 60)
	list = append(list, "k", "m")
	text, before := texts(r, list...), whole(r, list...)
	seen := api.Context{5, 5, 5, 5}
	d32 := strings.Repeat("d", 32)
	empty := string([]byte{0, 0, 0, 0, 0})

	for name, x := range map[string]string{
		"nothing":                        "",
		"another kind":                   "r12345678",
		"a kind alone":                   "S",
		"a digest cut short":             "R1234567",
		"a digest with one byte more":    "R123456789",
		"a level that is none":           "N\x03\x01\x00" + d32,
		"a level far off":                "N\xff\x01\x00" + d32,
		"no nodes":                       "N\x00\x00",
		"a node that is none":            "N\x00\x01\x01" + d32,
		"a node of the next level":       "N\x01\x01\x04" + d32,
		"a node of the next but one":     "N\x02\x01\x10" + d32,
		"a node twice":                   "N\x01\x02\x02" + d32 + "\x02" + d32,
		"nodes that fall":                "N\x01\x02\x02" + d32 + "\x01" + d32,
		"nodes with one byte more":       "N\x00\x01\x00" + d32 + "d",
		"nodes with one byte less":       "N\x00\x01\x00" + d32[1:],
		"no segments":                    "T\x00",
		"a segment that is none":         "T\x01\x40\x00\x00\x00\x00",
		"a segment twice":                "S\x02" + empty + empty,
		"65 segments":                    "S\x41" + strings.Repeat(empty, 65),
		"4294967295 records":             "S\x01\x00\xff\xff\xff\xff",
		"many bytes":                     strings.Repeat("N", 3<<20),
		"many noughts":                   "S\x01" + strings.Repeat("\x00", 3<<20),
		"a key that is none":             oneKey("S", "K", seen),
		"a key too long":                 oneKey("T", "abcdefghi", seen),
		"an empty key":                   oneKey("S", "", seen),
		"a key that is not known":        oneKey("T", "k", api.Context{}),
		"a context over MaxCount":        oneKey("S", "k", api.Context{0, 0, api.MaxCount + 1}),
		"a version that is not seen":     oneKey("T", "k", api.Context{1}, v(0, 2, "x")),
		"a version with the number 0":    oneKey("S", "k", seen, v(0, 0, "x")),
		"a version of replica 4":         oneKey("T", "k", seen, v(4, 1, "x")),
		"a version of replica 255":       oneKey("T", "k", seen, v(255, 1, "x")),
		"a value too long":               oneKey("S", "k", seen, v(0, 1, "1234567890123")),
		"versions out of order":          oneKey("T", "k", seen, v(1, 1, "x"), v(0, 1, "x")),
		"a version twice":                oneKey("S", "k", seen, v(1, 1, "x"), v(1, 1, "x")),
		"a dot twice":                    oneKey("S", "k", seen, v(1, 1, "x"), v(1, 1, "y")),
		"a record twice":                 segmentsLetter("S", map[int][]string{segmentOf("k"): {recordOf("k", seen), recordOf("k", seen)}}),
		"a record in another segment":    segmentsLetter("T", map[int][]string{segmentOf("k") ^ 1: {recordOf("k", seen)}}),
		"a good record, then a bad one":  segmentsLetter("T", map[int][]string{segmentOf("k"): {recordOf("k", seen), recordOf("zzzzzzzz", seen)}}),
		"a good segment, then a bad one": segmentsLetter("T", map[int][]string{segmentOf("k"): {recordOf("k", seen)}, 64: nil}),
		"a good letter, then a byte":     oneKey("S", "k", seen, v(1, 1, "x")) + "\x00",
		"a good letter twice":            strings.Repeat(oneKey("T", "k", seen, v(1, 1, "x")), 2),
	} {
		refuses(t, r, name, x)
		if strings.HasPrefix(x, "S") {
			refuses(t, r, name+", as a T", "T"+x[1:])
		}
		if strings.HasPrefix(x, "T") {
			refuses(t, r, name+", as an S", "S"+x[1:])
		}
	}
	tree(t, r, text)
	if after := whole(r, list...); after != before {
		t.Errorf("P1: letters that are none changed %s to %s", before, after)
	}
}

// goodLetters are some of each kind, which change much where they are heard.
func goodLetters() []string {
	seen := api.Context{9, 9, 9, 9}
	near := ofOneSegment("a", 3)
	return []string{
		"R12345678",
		"N\x00\x01\x00" + strings.Repeat("d", 32),
		"N\x02\x02\x03" + strings.Repeat("d", 32) + "\x0f" + strings.Repeat("e", 32),
		segmentsLetter("S", map[int][]string{1: nil, 2: nil, 63: nil}),
		segmentsLetter("T", map[int][]string{segmentOf("a"): {
			recordOf(near[0], seen, v(0, 2, "x"), v(0, 3, ""), v(3, 5, "123456789012")),
			recordOf(near[1], api.Context{0, 0, 1}),
			recordOf(near[2], seen, v(1, 1, "y"))},
			segmentOf("b"): {recordOf("b", seen, v(2, 9, "z"))}}),
	}
}

func TestHearCutShortOrLengthened(t *testing.T) {
	r, list := some(t, 0, 60)
	list = append(list, ofOneSegment("a", 3)...)
	list = append(list, "b")
	text := texts(r, list...)
	for _, l := range goodLetters() {
		for i := range l {
			refuses(t, r, "cut short", l[:i])
		}
		for b := range 256 {
			refuses(t, r, "lengthened", l+string([]byte{byte(b)}))
		}
	}
	tree(t, r, text)
	for _, l := range goodLetters() {
		if _, e := r.Hear(l); e != api.OK {
			t.Errorf("the test is wrong: %q: %d", l, e)
		}
	}
}

// TestHearAnything: letters with any bytes changed are heard, or refused and
// then leave all as it was.
func TestHearAnything(t *testing.T) {
	rnd := rand.New(rand.NewSource(5))
	met := map[api.Errno]int{}
	for n := range api.Replicas {
		r, _ := some(t, n, 20)
		for range 1500 {
			good := goodLetters()
			b := []byte(good[rnd.Intn(len(good))])
			for range 1 + rnd.Intn(3) {
				b[rnd.Intn(len(b))] = byte(rnd.Intn(256) >> rnd.Intn(8))
			}
			before := r.Hello()
			answer, e := r.Hear(string(b))
			met[e]++
			if e != api.OK && (e != api.ErrForm || answer != "" || r.Hello() != before) {
				t.Fatalf("P1: Hear(%q): %q, %d", b, answer, e)
			}
		}
	}
	if met[api.OK] < 300 || met[api.ErrForm] < 300 {
		t.Errorf("the test is wrong: %v", met)
	}
}

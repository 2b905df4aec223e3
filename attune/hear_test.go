package attune_test

import (
	"fmt"
	"maps"
	"math/rand"
	"slices"
	"strings"
	"testing"

	"attune/api"
	"attune/attune"
)

// hears gives a letter to a replica, and holds what comes of it against what must.
func hears(t *testing.T, r *attune.Replica, letter, want string) {
	t.Helper()
	if got, e := r.Hear(letter); got != want || e != api.OK {
		t.Errorf("P6: Hear(%.80q): %.200q, %d, want %.200q", letter, got, e, want)
	}
}

func v(replica, n int, value string) api.Version {
	return api.Version{Replica: replica, N: n, Value: value}
}

// nodesLetter is an N with these nodes of a level, of a tree of such digests.
func nodesLetter(digests [4][]uint64, level int, nodes ...int) string {
	out := "N" + string([]byte{byte(level), byte(len(nodes))})
	for _, n := range nodes {
		out += string([]byte{byte(n)})
		for _, d := range digests[level+1][4*n : 4*n+4] {
			out += eight(d)
		}
	}
	return out
}

// segmentsLetter is an S or a T with these segments, each with its records.
func segmentsLetter(kind string, segments map[int][]string) string {
	out := kind + string([]byte{byte(len(segments))})
	for _, n := range slices.Sorted(maps.Keys(segments)) {
		out += string([]byte{byte(n)}) + number(len(segments[n])) + strings.Join(segments[n], "")
	}
	return out
}

// oneKey is an S or a T with one record.
func oneKey(kind, key string, context api.Context, versions ...api.Version) string {
	return segmentsLetter(kind, map[int][]string{segmentOf(key): {recordOf(key, context, versions...)}})
}

// recordsOf are those of a segment, of a replica that knows none but these keys.
func recordsOf(r *attune.Replica, segment int, keys ...string) []string {
	var out []string
	for _, key := range slices.Sorted(slices.Values(keys)) {
		if s := record(r, key); s != "" && segmentOf(key) == segment {
			out = append(out, s)
		}
	}
	return out
}

// some is a replica with keys in many segments, some known by their context alone.
func some(t *testing.T, number, count int) (*attune.Replica, []string) {
	t.Helper()
	r := made(t, number)
	var list []string
	for i := range count {
		key := string([]byte{byte('a' + i%26), byte('a' + i/26%26)})
		list = append(list, key)
		is(t, "P4: Put", r.Put(key, fmt.Sprint(i), api.Context{}), api.OK)
		if i%3 == 0 {
			is(t, "P4: Delete", r.Delete(key, api.Context{1, 1, 1, 1}), api.OK)
		}
	}
	return r, list
}

func TestHearRoot(t *testing.T) {
	for n := range api.Replicas {
		for _, count := range []int{0, 1, 5, 200} {
			r, list := some(t, n, count)
			digests := levels(texts(r, list...))
			hears(t, r, r.Hello(), "")
			for bit := range 64 {
				hears(t, r, "R"+eight(digests[0][0]^1<<bit), nodesLetter(digests, 0, 0))
			}
			tree(t, r, texts(r, list...))
		}
	}
	hears(t, made(t, 0), made(t, 3).Hello(), "")
}

// TestHearNodesOneChild lets each node of each level differ by each child.
func TestHearNodesOneChild(t *testing.T) {
	r, list := some(t, 1, 100)
	digests := levels(texts(r, list...))
	for level, wide := range []int{1, 4, 16} {
		for n := range wide {
			hears(t, r, nodesLetter(digests, level, n), "")
			for child := 4 * n; child < 4*n+4; child++ {
				other := levels(texts(r, list...))
				other[level+1][child] ^= 1 << (child % 64)
				want := segmentsLetter("S", map[int][]string{child: recordsOf(r, child, list...)})
				if level < 2 {
					want = nodesLetter(digests, level+1, child)
				}
				hears(t, r, nodesLetter(other, level, n), want)
			}
		}
	}
	tree(t, r, texts(r, list...))
}

// TestHearNodesDrawn: any nodes, and any of their children, in one letter.
func TestHearNodesDrawn(t *testing.T) {
	rnd := rand.New(rand.NewSource(3))
	r, list := some(t, 2, 150)
	digests := levels(texts(r, list...))
	for round := range 300 {
		level := round % 3
		other := levels(texts(r, list...))
		var nodes, differ []int
		segments := map[int][]string{}
		for n := range other[level] {
			if rnd.Intn(3) > 0 {
				nodes = append(nodes, n)
			}
			for child := 4 * n; child < 4*n+4; child++ {
				if rnd.Intn(4) > 0 {
					continue
				}
				other[level+1][child] = rnd.Uint64()
				if slices.Contains(nodes, n) {
					differ = append(differ, child)
					segments[child] = recordsOf(r, child, list...)
				}
			}
		}
		want := ""
		switch {
		case len(nodes) == 0:
			continue
		case len(differ) == 0:
		case level == 2:
			want = segmentsLetter("S", segments)
		default:
			want = nodesLetter(digests, level+1, differ...)
		}
		hears(t, r, nodesLetter(other, level, nodes...), want)
	}
	tree(t, r, texts(r, list...))
}

// TestHearNodesAll: nothing at all is the same.
func TestHearNodesAll(t *testing.T) {
	r, list := some(t, 0, 300)
	digests := levels(texts(r, list...))
	var other [4][]uint64
	for level := range digests {
		other[level] = make([]uint64, len(digests[level]))
	}
	all := map[int][]string{}
	for n := range 64 {
		all[n] = recordsOf(r, n, list...)
	}
	sixteen := []int{0, 1, 2, 3, 4, 5, 6, 7, 8, 9, 10, 11, 12, 13, 14, 15}
	hears(t, r, nodesLetter(other, 0, 0), nodesLetter(digests, 1, 0, 1, 2, 3))
	hears(t, r, nodesLetter(other, 1, 0, 1, 2, 3), nodesLetter(digests, 2, sixteen...))
	hears(t, r, nodesLetter(other, 2, sixteen...), segmentsLetter("S", all))
	hears(t, r, segmentsLetter("S", all), segmentsLetter("T", all))
	hears(t, r, segmentsLetter("T", all), "")
	tree(t, r, texts(r, list...))
	nobody := made(t, 3)
	hears(t, nobody, segmentsLetter("S", all), segmentsLetter("T", all))
	tree(t, nobody, texts(r, list...))
}

func TestHearSegments(t *testing.T) {
	list := ofOneSegment("a", 5)
	n, far := segmentOf("a"), segmentOf("b")
	mine := func() *attune.Replica {
		r := made(t, 0)
		is(t, "P4: Put", r.Put(list[1], "x", api.Context{}), api.OK)
		is(t, "P4: Put", r.Put(list[3], "y", api.Context{}), api.OK)
		is(t, "P4: Put", r.Put("b", "far", api.Context{}), api.OK)
		return r
	}
	told := map[int][]string{n: {
		recordOf(list[0], api.Context{0, 2}, v(1, 2, "new")),
		recordOf(list[1], api.Context{0, 1}, v(1, 1, "beside")),
		recordOf(list[3], api.Context{1, 1}, v(1, 1, "over")),
		recordOf(list[4], api.Context{0, 0, 0, 7}),
	}}
	then := map[int][]string{n: {
		recordOf(list[0], api.Context{0, 2}, v(1, 2, "new")),
		recordOf(list[1], api.Context{1, 1}, v(0, 1, "x"), v(1, 1, "beside")),
		recordOf(list[3], api.Context{1, 1}, v(1, 1, "over")),
		recordOf(list[4], api.Context{0, 0, 0, 7}),
	}}
	text := texts(mine(), append(list, "b")...)
	text[n] = strings.Join(then[n], "")

	r := mine()
	hears(t, r, segmentsLetter("S", told), segmentsLetter("T", then))
	tree(t, r, text)
	keys(t, r, slices.Sorted(slices.Values([]string{list[0], list[1], list[3], "b"}))...)
	hears(t, r, segmentsLetter("S", told), segmentsLetter("T", then))
	tree(t, r, text)

	r = mine()
	hears(t, r, segmentsLetter("T", told), "")
	tree(t, r, text)
	hears(t, r, segmentsLetter("T", told), "")
	tree(t, r, text)

	// Of a segment of which nothing is told, all is told back.
	hears(t, r, segmentsLetter("S", map[int][]string{n: nil}), segmentsLetter("T", then))
	hears(t, r, segmentsLetter("T", map[int][]string{n: nil, far: nil, 0: nil}), "")
	then[far] = recordsOf(r, far, "b")
	then[0] = nil
	hears(t, r, segmentsLetter("S", map[int][]string{n: nil, far: nil, 0: nil}), segmentsLetter("T", then))
	tree(t, r, text)
}

// TestHearJoins: the states of one key that come one behind the other, as one
// replica hears them, in both orders.
func TestHearJoins(t *testing.T) {
	type state struct {
		context  api.Context
		versions []api.Version
	}
	for name, c := range map[string][3]state{
		"two who knew nothing of one another": {
			{api.Context{1}, []api.Version{v(0, 1, "x")}},
			{api.Context{0, 1}, []api.Version{v(1, 1, "y")}},
			{api.Context{1, 1}, []api.Version{v(0, 1, "x"), v(1, 1, "y")}}},
		"one who had seen the other": {
			{api.Context{1}, []api.Version{v(0, 1, "x")}},
			{api.Context{1, 1}, []api.Version{v(1, 1, "y")}},
			{api.Context{1, 1}, []api.Version{v(1, 1, "y")}}},
		"one who had deleted": {
			{api.Context{1, 2}, nil},
			{api.Context{1, 2}, []api.Version{v(1, 1, "y"), v(1, 2, "z")}},
			{api.Context{1, 2}, nil}},
		"one dot with two values": {
			{api.Context{0, 0, 3}, []api.Version{v(2, 3, "b")}},
			{api.Context{0, 0, 3}, []api.Version{v(2, 3, "aa")}},
			{api.Context{0, 0, 3}, []api.Version{v(2, 3, "aa")}}},
		"one dot with a value and an empty one": {
			{api.Context{0, 0, 3}, []api.Version{v(2, 2, "same"), v(2, 3, "\x00")}},
			{api.Context{0, 0, 4}, []api.Version{v(2, 2, "same"), v(2, 3, "")}},
			{api.Context{0, 0, 4}, []api.Version{v(2, 2, "same"), v(2, 3, "")}}},
		"contexts alone": {
			{api.Context{0, 0, 0, 7}, nil},
			{api.Context{9, 0, 0, 2}, nil},
			{api.Context{9, 0, 0, 7}, nil}},
		"versions of several": {
			{api.Context{2, 4, 0, 3}, []api.Version{v(0, 2, "a"), v(1, 1, "b"), v(1, 4, "c"), v(3, 3, "d")}},
			{api.Context{1, 2, 6, 2}, []api.Version{v(0, 1, "e"), v(1, 1, "b"), v(1, 2, "f"), v(2, 6, "g"), v(3, 2, "h")}},
			{api.Context{2, 4, 6, 3}, []api.Version{v(0, 2, "a"), v(1, 1, "b"), v(1, 4, "c"), v(2, 6, "g"), v(3, 3, "d")}}},
		"the greatest numbers": {
			{api.Context{api.MaxCount}, []api.Version{v(0, api.MaxCount, "a")}},
			{api.Context{api.MaxCount, api.MaxCount, api.MaxCount, api.MaxCount}, nil},
			{api.Context{api.MaxCount, api.MaxCount, api.MaxCount, api.MaxCount}, nil}},
	} {
		for _, order := range [][2]int{{0, 1}, {1, 0}} {
			for number := range api.Replicas {
				r := made(t, number)
				first, second := c[order[0]], c[order[1]]
				want := oneKey("T", "k", c[2].context, c[2].versions...)
				hears(t, r, oneKey("S", "k", first.context, first.versions...), oneKey("T", "k", first.context, first.versions...))
				hears(t, r, oneKey("S", "k", second.context, second.versions...), want)
				hears(t, r, oneKey("S", "k", first.context, first.versions...), want)
				hears(t, r, oneKey("T", "k", second.context, second.versions...), "")
				hears(t, r, segmentsLetter("S", map[int][]string{segmentOf("k"): nil}), want)
				versions, context, e := r.Get("k")
				if !slices.Equal(versions, c[2].versions) || context != c[2].context || e != api.OK {
					t.Errorf("P6: joining, %s: %v, %v, %d", name, versions, context, e)
				}
				if got := len(r.Keys()); got != min(1, len(c[2].versions)) {
					t.Errorf("P4: joining, %s: %d keys have versions", name, got)
				}
			}
		}
	}
}

// TestDocumentsExamples are those of joining, by talks.
func TestDocumentsExamples(t *testing.T) {
	zero, one, two := made(t, 0), made(t, 1), made(t, 2)
	is(t, "P4: Put", zero.Put("a", "x", api.Context{}), api.OK)
	is(t, "P4: Put", one.Put("a", "y", api.Context{}), api.OK)
	late := oneKey("S", "a", api.Context{1}, v(0, 1, "x"))
	talk(t, one, zero)
	get(t, zero, "a", `0.1:"x" 1.1:"y" [1 1 0 0] 0`)
	get(t, one, "a", `0.1:"x" 1.1:"y" [1 1 0 0] 0`)
	is(t, "P4: Put", one.Put("a", "z", api.Context{1}), api.OK)
	get(t, one, "a", `1.1:"y" 1.2:"z" [1 2 0 0] 0`)
	talk(t, two, one)
	is(t, "P4: Delete", two.Delete("a", api.Context{1, 2}), api.OK)
	get(t, two, "a", `[1 2 0 0] 0`)
	talk(t, two, one)
	get(t, two, "a", `[1 2 0 0] 0`)
	get(t, one, "a", `[1 2 0 0] 0`)
	hears(t, two, late, oneKey("T", "a", api.Context{1, 2}))
	get(t, two, "a", `[1 2 0 0] 0`)
}

// TestWritesBehindHearing: a replica's numbers go on from what it heard of
// itself, and versions of others are overwritten by one who has seen them.
func TestWritesBehindHearing(t *testing.T) {
	r := made(t, 1)
	hears(t, r, oneKey("T", "k", api.Context{2, 5, 1}, v(0, 1, "a"), v(0, 2, "b"), v(1, 5, "c"), v(2, 1, "d")), "")
	is(t, "P4: Put", r.Put("k", "new", api.Context{1, 5}), api.OK)
	get(t, r, "k", `0.2:"b" 1.6:"new" 2.1:"d" [2 6 1 0] 0`)
	is(t, "P4: Delete", r.Delete("k", api.Context{0, 0, 0, 9}), api.ErrNone)
	is(t, "P4: Delete", r.Delete("k", api.Context{9, 0, 0, 9}), api.OK)
	get(t, r, "k", `1.6:"new" 2.1:"d" [9 6 1 9] 0`)
	hears(t, r, oneKey("T", "k", api.Context{0, api.MaxCount}), "")
	get(t, r, "k", `2.1:"d" [9 1000000 1 9] 0`)
	is(t, "P4: Put", r.Put("k", "new", api.Context{}), api.ErrLimit)
}

// TestMoreThanMaxVersions come by joining alone.
func TestMoreThanMaxVersions(t *testing.T) {
	var list []*attune.Replica
	for n := range api.Replicas {
		r := made(t, n)
		for i := range api.MaxVersions {
			is(t, "P4: Put", r.Put("k", fmt.Sprint(i), api.Context{}), api.OK)
		}
		list = append(list, r)
	}
	for _, r := range list[1:] {
		talk(t, list[0], r)
	}
	for _, r := range list[1:] {
		talk(t, r, list[0])
	}
	for n, r := range list {
		versions, context, _ := r.Get("k")
		if len(versions) != 80 || context != (api.Context{20, 20, 20, 20}) {
			t.Fatalf("P6: four with 20 versions each: %d, %v", len(versions), context)
		}
		for i, got := range versions {
			if got != v(i/20, i%20+1, fmt.Sprint(i%20)) {
				t.Errorf("P6: version %d of 80: %v", i, got)
			}
		}
		tree(t, r, texts(r, "k"))
		seen := api.Context{20, 20, 20, 20}
		seen[(n+1)%4] = 0
		is(t, "P4: Put with 20 of 80 unseen", r.Put("k", "new", seen), api.ErrLimit)
		seen[(n+1)%4] = 1
		is(t, "P4: Put with 19 of 80 unseen", r.Put("k", "new", seen), api.OK)
		if versions, _, _ := r.Get("k"); len(versions) != 20 {
			t.Errorf("P4: Put with 19 of 80 unseen: %d", len(versions))
		}
	}
}

// TestManyVersionsInOneLetter: a letter may have any number of them.
func TestManyVersionsInOneLetter(t *testing.T) {
	const count = 20000
	var odd, even, all []api.Version
	for n := range count {
		all = append(all, v(0, n+1, "v"))
		if n%2 == 0 {
			even = append(even, v(1, n+1, "v"))
		} else {
			odd = append(odd, v(1, n+1, "v"))
		}
	}
	r := made(t, 0)
	hears(t, r, oneKey("T", "k", api.Context{count}, all...), "")
	hears(t, r, oneKey("T", "k", api.Context{0, count}, even...), "")
	hears(t, r, oneKey("S", "k", api.Context{0, count}, odd...), oneKey("T", "k", api.Context{count, count}, all...))
}

// TestLettersGoAstray: to the one that wrote them, to somebody else, late, twice.
func TestLettersGoAstray(t *testing.T) {
	a, b, c := made(t, 0), made(t, 1), made(t, 2)
	is(t, "P4: Put", a.Put("k", "a", api.Context{}), api.OK)
	is(t, "P4: Put", b.Put("k", "b", api.Context{}), api.OK)
	is(t, "P4: Put", b.Put("l", "only b", api.Context{}), api.OK)
	all := talk(t, a, b)
	if kinds(all) != "RNNNST" {
		t.Fatalf("P6: letters %s", kinds(all))
	}
	same := texts(a, "k", "l")
	for range 2 {
		// Letters of before the end differ from what is known then, and are answered.
		for i, l := range all {
			answer, e := []*attune.Replica{a, b}[i%2].Hear(l)
			is(t, "P6: Hear, late", e, api.OK)
			if want := "NNNST"[min(i, 4):][:1]; i < 5 && !strings.HasPrefix(answer, want) {
				t.Errorf("P6: a late %s was answered by %.1q", l[:1], answer)
			}
			_, e = []*attune.Replica{a, b}[(i+1)%2].Hear(l)
			is(t, "P6: Hear, by the one that wrote it", e, api.OK)
			tree(t, a, same)
			tree(t, b, same)
		}
	}
	// The letters that a replica wrote of what it knows tell it nothing.
	hears(t, a, a.Hello(), "")
	for level, wide := range []int{1, 4, 16} {
		for n := range wide {
			hears(t, a, nodesLetter(levels(same), level, n), "")
		}
	}
	// Somebody else learns from an S or a T as the one that it was for.
	hears(t, c, all[5], "")
	get(t, c, "k", `0.1:"a" 1.1:"b" [1 1 0 0] 0`)
	is(t, "P4: Put", c.Put("k", "c", api.Context{1, 1}), api.OK)
	for _, l := range all[4:] {
		_, e := c.Hear(l)
		is(t, "P6: Hear, late", e, api.OK)
		get(t, c, "k", `2.1:"c" [1 1 1 0] 0`)
	}
}

// TestHearChangesThatReplicaAlone: others, of the same number too, stay.
func TestHearChangesThatReplicaAlone(t *testing.T) {
	first, second, third := made(t, 0), made(t, 0), made(t, 1)
	for _, r := range []*attune.Replica{first, second, third} {
		is(t, "P4: Put", r.Put("k", "x", api.Context{}), api.OK)
	}
	letter := oneKey("S", "k", api.Context{3, 3}, v(0, 2, "y"))
	before := [2]string{whole(second, "k"), whole(third, "k")}
	answer, _ := first.Hear(letter)
	get(t, first, "k", `0.2:"y" [3 3 0 0] 0`)
	if after := [2]string{whole(second, "k"), whole(third, "k")}; after != before {
		t.Errorf("P2: Hear changed other replicas: %s, before %s", after, before)
	}
	hears(t, second, letter, answer)
	if got, want := whole(second, "k"), whole(first, "k"); got != want {
		t.Errorf("P2: the same calls come to %s and to %s", want, got)
	}
	is(t, "P4: Put", first.Put("k", "z", api.Context{9}), api.OK)
	if want := oneKey("T", "k", api.Context{3, 3}, v(0, 2, "y")); answer != want {
		t.Errorf("P2: a later Put changed an answer of Hear: %q, want %q", answer, want)
	}
	get(t, second, "k", `0.2:"y" [3 3 0 0] 0`)
	get(t, third, "k", `1.1:"x" [0 1 0 0] 0`)
}

package attune_test

import (
	"fmt"
	"math"
	"slices"
	"strings"
	"testing"

	"attune/api"
	"attune/attune"
)

// made is a replica.
func made(t *testing.T, n int) *attune.Replica {
	t.Helper()
	r, e := attune.New(n)
	if r == nil || e != api.OK {
		t.Fatalf("P3: New(%d): %v, %d", n, r != nil, e)
	}
	return r
}

// is holds an error against the one that it must be.
func is(t *testing.T, what string, got, want api.Errno) {
	t.Helper()
	if got != want {
		t.Errorf("%s: %d, want %d", what, got, want)
	}
}

// told is what Get tells of a key, as a text.
func told(r *attune.Replica, key string) string {
	versions, context, errno := r.Get(key)
	var b strings.Builder
	for _, v := range versions {
		fmt.Fprintf(&b, "%d.%d:%q ", v.Replica, v.N, v.Value)
	}
	fmt.Fprint(&b, context, errno)
	return b.String()
}

// whole is what a replica tells of these keys, and which have versions.
func whole(r *attune.Replica, keys ...string) string {
	out := strings.Join(r.Keys(), " ")
	for _, k := range keys {
		out += "; " + k + ": " + told(r, k)
	}
	return out
}

func get(t *testing.T, r *attune.Replica, key, want string) {
	t.Helper()
	if got := told(r, key); got != want {
		t.Errorf("P4: Get(%s): %s, want %s", key, got, want)
	}
}

func keys(t *testing.T, r *attune.Replica, want ...string) {
	t.Helper()
	if got := r.Keys(); !slices.Equal(got, want) {
		t.Errorf("P4: Keys(): %q, want %q", got, want)
	}
}

// The wrong ones of each kind.
func badKeys() []string {
	return []string{"", "A", "abcdefghi", "a ", " a", "a1", "aAa", "\x00", "`", "{", "\u00e9", "a\xff", strings.Repeat("a", 1<<20)}
}

func badValues() []string {
	return []string{"1234567890123", strings.Repeat("\x00", 13), strings.Repeat("v", 1<<20)}
}

func badContexts() []api.Context {
	var out []api.Context
	for i := range api.Replicas {
		for _, n := range []int{-1, api.MaxCount + 1, math.MaxInt, math.MinInt} {
			var c api.Context
			c[i] = n
			out = append(out, c)
		}
	}
	return out
}

func TestNew(t *testing.T) {
	for n := range 4 {
		r := made(t, n)
		keys(t, r)
		get(t, r, "a", "[0 0 0 0] 0")
		is(t, "P3: Put", r.Put("a", "x", api.Context{}), api.OK)
		versions, context, _ := r.Get("a")
		if len(versions) != 1 || versions[0] != (api.Version{Replica: n, N: 1, Value: "x"}) || context[n] != 1 {
			t.Errorf("P3: New(%d) writes %v, %v", n, versions, context)
		}
	}
	for _, n := range []int{-1, 4, 5, 64, 256, 1 << 32, math.MaxInt, math.MinInt} {
		if r, e := attune.New(n); r != nil || e != api.ErrReplica {
			t.Errorf("P3: New(%d): %v, %d", n, r != nil, e)
		}
	}
}

func TestPut(t *testing.T) {
	r := made(t, 0)
	for _, c := range []struct {
		key, value string
		seen       api.Context
		want       string
	}{
		{"a", "x", api.Context{}, `0.1:"x" [1 0 0 0] 0`},
		{"a", "y", api.Context{}, `0.1:"x" 0.2:"y" [2 0 0 0] 0`},
		{"a", "y", api.Context{1}, `0.2:"y" 0.3:"y" [3 0 0 0] 0`},
		{"a", "", api.Context{3, 4}, `0.4:"" [4 4 0 0] 0`},
		{"a", "w", api.Context{0, 3, 5}, `0.4:"" 0.5:"w" [5 4 5 0] 0`},
		{"a", "u", api.Context{8}, `0.9:"u" [9 4 5 0] 0`},
		{"abcdefgh", "123456789012", api.Context{}, `0.1:"123456789012" [1 0 0 0] 0`},
		{"z", "\x00\xff\n", api.Context{0, 0, 0, api.MaxCount}, `0.1:"\x00\xff\n" [1 0 0 1000000] 0`},
	} {
		is(t, "P4: Put "+c.key, r.Put(c.key, c.value, c.seen), api.OK)
		get(t, r, c.key, c.want)
	}
	keys(t, r, "a", "abcdefgh", "z")
}

func TestPutAtMaxVersions(t *testing.T) {
	r := made(t, 3)
	for i := range api.MaxVersions {
		is(t, "P4: Put", r.Put("k", fmt.Sprint(i), api.Context{}), api.OK)
	}
	before := whole(r, "k", "l")
	is(t, "P4: Put with 20 unseen", r.Put("k", "n", api.Context{9, 9, 9}), api.ErrLimit)
	if after := whole(r, "k", "l"); after != before {
		t.Errorf("P1: a refused Put changed %s to %s", before, after)
	}
	is(t, "P4: Put to another key", r.Put("l", "n", api.Context{}), api.OK)
	is(t, "P4: Put with 19 unseen", r.Put("k", "n", api.Context{0, 0, 0, 1}), api.OK)
	versions, context, _ := r.Get("k")
	if len(versions) != 20 || versions[0].N != 2 || versions[19].N != 21 || context != (api.Context{0, 0, 0, 21}) {
		t.Errorf("P4: Put with 19 unseen: %v, %v", versions, context)
	}
}

func TestPutAtMaxCount(t *testing.T) {
	r := made(t, 1)
	is(t, "P4: Put", r.Put("k", "x", api.Context{0, api.MaxCount}), api.ErrLimit)
	get(t, r, "k", "[0 0 0 0] 0")
	is(t, "P4: Put", r.Put("k", "x", api.Context{api.MaxCount, api.MaxCount - 1, api.MaxCount, api.MaxCount}), api.OK)
	get(t, r, "k", `1.1000000:"x" [1000000 1000000 1000000 1000000] 0`)
	is(t, "P4: Put", r.Put("k", "y", api.Context{}), api.ErrLimit)
	is(t, "P4: Put", r.Put("k", "y", api.Context{0, api.MaxCount}), api.ErrLimit)
	get(t, r, "k", `1.1000000:"x" [1000000 1000000 1000000 1000000] 0`)
	is(t, "P4: Delete", r.Delete("k", api.Context{0, api.MaxCount}), api.OK)
	is(t, "P4: Put", r.Put("k", "y", api.Context{}), api.ErrLimit)
	get(t, r, "k", `[1000000 1000000 1000000 1000000] 0`)
	keys(t, r)
}

func TestDelete(t *testing.T) {
	r := made(t, 2)
	is(t, "P4: Delete of what is not known", r.Delete("a", api.Context{9, 9, 9, 9}), api.ErrNone)
	get(t, r, "a", "[0 0 0 0] 0")
	for _, value := range []string{"x", "y", "z"} {
		is(t, "P4: Put", r.Put("a", value, api.Context{}), api.OK)
	}
	is(t, "P4: Delete of what was not seen", r.Delete("a", api.Context{9, 9, 0, 9}), api.ErrNone)
	get(t, r, "a", `2.1:"x" 2.2:"y" 2.3:"z" [0 0 3 0] 0`)
	is(t, "P4: Delete of two", r.Delete("a", api.Context{4, 0, 2}), api.OK)
	get(t, r, "a", `2.3:"z" [4 0 3 0] 0`)
	is(t, "P4: Delete of what is gone", r.Delete("a", api.Context{4, 0, 2}), api.ErrNone)
	keys(t, r, "a")
	is(t, "P4: Delete of the last", r.Delete("a", api.Context{0, 0, 7, api.MaxCount}), api.OK)
	get(t, r, "a", `[4 0 7 1000000] 0`)
	keys(t, r)
	is(t, "P4: Put after Delete", r.Put("a", "w", api.Context{}), api.OK)
	get(t, r, "a", `2.8:"w" [4 0 8 1000000] 0`)
	keys(t, r, "a")
}

func TestKeysByRisingBytes(t *testing.T) {
	r := made(t, 0)
	want := []string{"a", "aa", "aaaaaaaa", "ab", "b", "ba", "z", "zz"}
	for _, i := range []int{6, 1, 4, 0, 7, 3, 5, 2} {
		is(t, "P4: Put", r.Put(want[i], "", api.Context{}), api.OK)
	}
	keys(t, r, want...)
	is(t, "P4: Delete", r.Delete("aa", api.Context{1}), api.OK)
	keys(t, r, slices.Delete(want, 1, 2)...)
}

// TestFirstErrorNamed lets as many errors apply at once as can.
func TestFirstErrorNamed(t *testing.T) {
	r := made(t, 0)
	for range api.MaxVersions {
		is(t, "P4: Put", r.Put("a", "x", api.Context{}), api.OK)
	}
	before := whole(r, "a", "b")
	for _, seen := range append(badContexts(), api.Context{}, api.Context{api.MaxCount}) {
		for _, key := range badKeys() {
			for _, value := range append(badValues(), "x") {
				is(t, "P1: Put of no key", r.Put(key, value, seen), api.ErrKey)
			}
			is(t, "P1: Delete of no key", r.Delete(key, seen), api.ErrKey)
		}
		for _, value := range badValues() {
			is(t, "P1: Put of no value", r.Put("a", value, seen), api.ErrValue)
			is(t, "P1: Put of no value", r.Put("b", value, seen), api.ErrValue)
		}
	}
	for _, seen := range badContexts() {
		is(t, "P1: Put by no context", r.Put("a", "x", seen), api.ErrSeen)
		is(t, "P1: Put by no context", r.Put("b", "x", seen), api.ErrSeen)
		is(t, "P1: Delete by no context", r.Delete("a", seen), api.ErrSeen)
		is(t, "P1: Delete by no context", r.Delete("b", seen), api.ErrSeen)
	}
	is(t, "P1: Put at the limit", r.Put("a", "x", api.Context{}), api.ErrLimit)
	is(t, "P1: Put at the limit", r.Put("b", "x", api.Context{api.MaxCount}), api.ErrLimit)
	is(t, "P1: Delete of nothing", r.Delete("b", api.Context{api.MaxCount}), api.ErrNone)
	if after := whole(r, "a", "b"); after != before {
		t.Errorf("P1: errors changed %s to %s", before, after)
	}
}

func TestNothingBesideAnError(t *testing.T) {
	r := made(t, 0)
	is(t, "P4: Put", r.Put("a", "x", api.Context{}), api.OK)
	for _, key := range badKeys() {
		if l, c, e := r.Get(key); l != nil || c != (api.Context{}) || e != api.ErrKey {
			t.Errorf("P1: Get(%.20q): %v, %v, %d", key, l, c, e)
		}
	}
}

// TestNoPanic gives every call what is at and over the edges of its types.
func TestNoPanic(t *testing.T) {
	numbers := []int{0, 1, -1, 3, 4, 63, 64, math.MaxInt, math.MinInt}
	for n := range api.Replicas {
		r := made(t, n)
		for _, key := range append(badKeys(), "a") {
			for _, seen := range append(badContexts(), api.Context{}) {
				r.Put(key, "", seen)
				r.Delete(key, seen)
			}
			r.Get(key)
			r.Hear(key)
		}
		for _, i := range numbers {
			attune.New(i)
			r.Segment(i)
			for _, j := range numbers {
				r.Digest(i, j)
			}
		}
		r.Keys()
		r.Hello()
	}
}

func TestAskingChangesNothing(t *testing.T) {
	r := made(t, 0)
	is(t, "P4: Put", r.Put("a", "x", api.Context{0, 3}), api.OK)
	is(t, "P4: Put", r.Put("b", "y", api.Context{}), api.OK)
	is(t, "P4: Delete", r.Delete("b", api.Context{1}), api.OK)
	want := `a; a: 0.1:"x" [1 3 0 0] 0; b: [1 0 0 0] 0; c: [0 0 0 0] 0`
	for range 3 {
		if got := whole(r, "a", "b", "c"); got != want {
			t.Errorf("P2: %s, want %s", got, want)
		}
		for n := range api.Segments {
			r.Segment(n)
			r.Digest(3, n)
		}
		r.Hello()
	}
}

// TestAnswersAreTheCallers spoils all that came out, the spare room too.
func TestAnswersAreTheCallers(t *testing.T) {
	r := made(t, 0)
	for _, key := range []string{"a", "b", "c", "d", "e"} {
		for range 5 {
			is(t, "P4: Put", r.Put(key, "x", api.Context{}), api.OK)
		}
	}
	is(t, "P4: Delete", r.Delete("a", api.Context{2}), api.OK)
	before := whole(r, "a", "b", "c", "d", "e")
	heldVersions, _, _ := r.Get("a")
	heldKeys := r.Keys()
	versions, _, _ := r.Get("a")
	spoil(versions, api.Version{Replica: 3, N: 9, Value: "mine"})
	spoil(r.Keys(), "mine")
	if after := whole(r, "a", "b", "c", "d", "e"); after != before {
		t.Errorf("P2: what a caller did with an answer changed %s to %s", before, after)
	}
	is(t, "P4: Put", r.Put("a", "new", api.Context{9}), api.OK)
	is(t, "P4: Put", r.Put("aa", "new", api.Context{}), api.OK)
	if len(heldVersions) != 3 || heldVersions[0] != (api.Version{N: 3, Value: "x"}) {
		t.Errorf("P2: a later Put changed an answer of Get: %v", heldVersions)
	}
	if strings.Join(heldKeys, " ") != "a b c d e" {
		t.Errorf("P2: a later Put changed an answer of Keys: %v", heldKeys)
	}
}

// spoil writes over a list and all the room behind it.
func spoil[T any](list []T, with T) {
	list = list[:cap(list)]
	for i := range list {
		list[i] = with
	}
}

func TestReplicasKnowNothingOfOneAnother(t *testing.T) {
	list := []*attune.Replica{made(t, 0), made(t, 1), made(t, 1)}
	for i, r := range list {
		is(t, "P4: Put", r.Put("a", fmt.Sprint(i), api.Context{}), api.OK)
		is(t, "P4: Put", r.Put("own"+string(rune('a'+i)), "", api.Context{}), api.OK)
	}
	is(t, "P4: Delete", list[2].Delete("a", api.Context{0, 1}), api.OK)
	get(t, list[0], "a", `0.1:"0" [1 0 0 0] 0`)
	get(t, list[1], "a", `1.1:"1" [0 1 0 0] 0`)
	get(t, list[2], "a", `[0 1 0 0] 0`)
	keys(t, list[0], "a", "owna")
	keys(t, list[1], "a", "ownb")
	keys(t, list[2], "ownc")
	keys(t, made(t, 1))
}

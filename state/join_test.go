package state

import (
	"math/rand"
	"reflect"
	"slices"
	"testing"

	"attune/api"
)

func TestJoin(t *testing.T) {
	for _, c := range []struct {
		name       string
		a, b, want State
	}{
		{"two keys that are not known", State{}, State{}, State{}},
		{"one that is not known", State{}, of(Context{1, 2}, v(1, 2, "y")), of(Context{1, 2}, v(1, 2, "y"))},
		{"the document's first example", of(Context{1}, v(0, 1, "x")), of(Context{0, 1}, v(1, 1, "y")), of(Context{1, 1}, v(0, 1, "x"), v(1, 1, "y"))},
		{"the document's last example", of(Context{1, 2}), of(Context{1, 2}, v(1, 1, "y"), v(1, 2, "z")), of(Context{1, 2})},
		{"nothing comes back", of(Context{1, 2}), of(Context{1}, v(0, 1, "x")), of(Context{1, 2})},
		{"overwritten by one who had seen it", of(Context{1}, v(0, 1, "x")), of(Context{1, 1}, v(1, 1, "y")), of(Context{1, 1}, v(1, 1, "y"))},
		{"both overwrote what the other has", of(Context{1, 1}, v(0, 1, "x")), of(Context{1, 1}, v(1, 1, "y")), of(Context{1, 1})},
		{"one dot that both have", of(Context{1}, v(0, 1, "x")), of(Context{1, 3}, v(0, 1, "x")), of(Context{1, 3}, v(0, 1, "x"))},
		{"one dot with two values", of(Context{2}, v(0, 2, "b")), of(Context{2}, v(0, 2, "a")), of(Context{2}, v(0, 2, "a"))},
		{"values that differ in length", of(Context{2}, v(0, 2, "ab")), of(Context{2}, v(0, 2, "a")), of(Context{2}, v(0, 2, "a"))},
		{"the longer value is the less one", of(Context{2}, v(0, 2, "aaaa")), of(Context{2}, v(0, 2, "b")), of(Context{2}, v(0, 2, "aaaa"))},
		{"an empty value", of(Context{2}, v(0, 2, "\x00")), of(Context{2}, v(0, 2, "")), of(Context{2}, v(0, 2, ""))},
		{"values by bytes, not by letters", of(Context{2}, v(0, 2, "\xff")), of(Context{2}, v(0, 2, "\u00e9")), of(Context{2}, v(0, 2, "\u00e9"))},
		{"the values of other dots stay", of(Context{2}, v(0, 1, "p"), v(0, 2, "b")), of(Context{2}, v(0, 1, "q"), v(0, 2, "a")), of(Context{2}, v(0, 1, "p"), v(0, 2, "a"))},
		{"contexts alone", of(Context{0, 0, 0, 7}), of(Context{9, 0, 0, 3}), of(Context{9, 0, 0, 7})},
		{"just seen, and just not", of(Context{3, 5}, v(0, 3, "a"), v(1, 4, "b"), v(1, 5, "c")), of(Context{3, 4}), of(Context{3, 5}, v(1, 5, "c"))},
		{"several replicas, in each other's midst", of(Context{2, 4, 0, 3}, v(0, 2, "a"), v(1, 1, "b"), v(1, 4, "c"), v(3, 3, "d")),
			of(Context{1, 2, 6, 2}, v(0, 1, "e"), v(1, 1, "b"), v(1, 2, "f"), v(2, 6, "g"), v(3, 2, "h")),
			of(Context{2, 4, 6, 3}, v(0, 2, "a"), v(1, 1, "b"), v(1, 4, "c"), v(2, 6, "g"), v(3, 3, "d"))},
		{"the greatest number", of(Context{api.MaxCount}, v(0, api.MaxCount, "a")), of(Context{0, 0, 0, api.MaxCount}, v(3, api.MaxCount, "b")),
			of(Context{api.MaxCount, 0, 0, api.MaxCount}, v(0, api.MaxCount, "a"), v(3, api.MaxCount, "b"))},
	} {
		for _, pair := range [][2]State{{c.a, c.b}, {c.b, c.a}} {
			if got := pair[0].Join(pair[1]); !same(got, c.want) {
				t.Errorf("P6: joining, %s: %v with %v is %v, want %v", c.name, pair[0], pair[1], got, c.want)
			}
		}
	}
}

// TestJoinOverMaxVersions: the limit is one of writes, not of joining.
func TestJoinOverMaxVersions(t *testing.T) {
	mine, theirs := many(api.MaxVersions), of(Context{api.MaxVersions})
	for i := range api.MaxVersions {
		theirs.Versions = append(theirs.Versions, v(0, i+1, "o"))
	}
	want := of(Context{api.MaxVersions, 0, 0, api.MaxVersions}, slices.Concat(theirs.Versions, mine.Versions)...)
	for _, got := range []State{mine.Join(theirs), theirs.Join(mine), theirs.Join(mine).Join(mine)} {
		if !same(got, want) {
			t.Errorf("P6: joining 20 and 20 versions: %v", got)
		}
	}
	if _, e := want.Put(1, "z", Context{api.MaxVersions}); e != api.ErrLimit {
		t.Errorf("P4: Put with 20 that are not seen, of 40: %d", e)
	}
	if after, e := want.Put(1, "z", Context{api.MaxVersions, 0, 0, 1}); e != api.OK || len(after.Versions) != 20 {
		t.Errorf("P4: Put with 19 that are not seen, of 40: %d versions, %d", len(after.Versions), e)
	}
}

// asWords is joining as the document's words have it, dot by dot.
func asWords(a, b State) State {
	in := func(s State, d Dot) (string, bool) {
		for _, v := range s.Versions {
			if v.Dot == d {
				return v.Value, true
			}
		}
		return "", false
	}
	var out State
	for replica := range api.Replicas {
		out.Context[replica] = max(a.Context[replica], b.Context[replica])
		for n := range out.Context[replica] + 1 {
			d := Dot{Replica: replica, N: n}
			x, inA := in(a, d)
			y, inB := in(b, d)
			switch {
			case inA && inB && y < x, inB && !inA && n > a.Context[replica]:
				out.Versions = append(out.Versions, Version{Dot: d, Value: y})
			case inA && inB, inA && n > b.Context[replica]:
				out.Versions = append(out.Versions, Version{Dot: d, Value: x})
			}
		}
	}
	return out
}

// drawn is a small state, so that two of them have much in common.
func drawn(rnd *rand.Rand) State {
	var s State
	for replica := range api.Replicas {
		s.Context[replica] = rnd.Intn(4)
		for n := range s.Context[replica] {
			if rnd.Intn(2) == 0 {
				s.Versions = append(s.Versions, v(replica, n+1, []string{"", "a", "ab", "b"}[rnd.Intn(4)]))
			}
		}
	}
	return s
}

func TestJoinDrawn(t *testing.T) {
	rnd := rand.New(rand.NewSource(7))
	for range 20000 {
		a, b, c := drawn(rnd), drawn(rnd), drawn(rnd)
		both := a.Join(b)
		if want := asWords(a, b); !same(both, want) {
			t.Fatalf("P6: %v joined with %v is %v, want %v", a, b, both, want)
		}
		if other := b.Join(a); !same(both, other) {
			t.Fatalf("P7: %v with %v is %v, the other way round %v", a, b, both, other)
		}
		if twice := both.Join(b).Join(a).Join(both); !same(both, twice) {
			t.Fatalf("P7: %v with %v is %v, joined again %v", a, b, both, twice)
		}
		if left, right := both.Join(c), a.Join(b.Join(c)); !same(left, right) {
			t.Fatalf("P7: %v, %v, %v: from the left %v, from the right %v", a, b, c, left, right)
		}
		if both.Context != (Context{}) && !both.Sound() {
			t.Fatalf("P6: %v with %v is not sound: %v", a, b, both)
		}
	}
}

// TestJoinLeavesBoth: neither the versions nor the spare room behind them may
// be written to, and what comes of it has room of its own.
func TestJoinLeavesBoth(t *testing.T) {
	rnd := rand.New(rand.NewSource(8))
	for range 500 {
		a, b := drawn(rnd), drawn(rnd)
		a.Versions = append(a.Versions, v(3, 99, "spare"))[:len(a.Versions)]
		b.Versions = append(b.Versions, v(3, 99, "spare"))[:len(b.Versions)]
		roomA, roomB := a.Versions[:len(a.Versions)+1], b.Versions[:len(b.Versions)+1]
		keptA, keptB := slices.Clone(roomA), slices.Clone(roomB)
		got := a.Join(b)
		for i := range got.Versions[:cap(got.Versions)] {
			got.Versions[:cap(got.Versions)][i] = v(0, 1, "mine")
		}
		if !reflect.DeepEqual(roomA, keptA) || !reflect.DeepEqual(roomB, keptB) {
			t.Fatalf("P2: joining shares memory with what was joined: %v, %v, before %v, %v", roomA, roomB, keptA, keptB)
		}
	}
}

func TestSoundState(t *testing.T) {
	for _, c := range []struct {
		name string
		State
		want bool
	}{
		{"not known", State{}, false},
		{"a context alone", of(Context{0, 0, 0, 1}), true},
		{"the greatest numbers", of(Context{api.MaxCount}, v(0, api.MaxCount, "")), true},
		{"a number too great", of(Context{1, 0, api.MaxCount + 1}, v(0, 1, "")), false},
		{"a number too small", of(Context{1, -1}, v(0, 1, "")), false},
		{"seen just so", of(Context{1, 2, 3, 4}, v(0, 1, ""), v(1, 2, ""), v(2, 3, ""), v(3, 4, "")), true},
		{"the last one not seen", of(Context{1, 2, 3, 3}, v(0, 1, ""), v(1, 2, ""), v(2, 3, ""), v(3, 4, "")), false},
		{"the first one not seen", of(Context{0, 2, 3, 4}, v(0, 1, ""), v(1, 2, ""), v(2, 3, ""), v(3, 4, "")), false},
		{"a version, and all noughts", of(Context{}, v(0, 1, "")), false},
		{"the number nought", of(Context{1}, v(0, 0, "")), false},
		{"a number below nought", of(Context{1}, v(0, -1, "")), false},
		{"no replica", of(Context{9, 9, 9, 9}, v(4, 1, "")), false},
		{"no replica, far off", of(Context{9, 9, 9, 9}, v(255, 1, "")), false},
		{"no replica, below", of(Context{9, 9, 9, 9}, v(-1, 1, "")), false},
		{"the longest value", of(Context{1}, v(0, 1, "123456789012")), true},
		{"a value too long", of(Context{1}, v(0, 1, "1234567890123")), false},
		{"numbers in order", of(Context{3}, v(0, 1, ""), v(0, 3, "")), true},
		{"numbers out of order", of(Context{3}, v(0, 3, ""), v(0, 1, "")), false},
		{"replicas out of order", of(Context{3, 3}, v(1, 1, ""), v(0, 3, "")), false},
		{"out of order at the end", of(Context{3, 3}, v(0, 1, ""), v(1, 2, ""), v(1, 1, "")), false},
		{"one twice", of(Context{3}, v(0, 1, ""), v(0, 1, "")), false},
		{"one twice with two values", of(Context{3}, v(0, 1, "a"), v(0, 1, "b")), false},
		{"more than the most versions", many(api.MaxVersions + 1), true},
	} {
		if got := c.State.Sound(); got != c.want {
			t.Errorf("P6: a state, %s, is sound: %v", c.name, got)
		}
	}
}

package state

import (
	"reflect"
	"strings"
	"testing"

	"attune/api"
)

// v is a version in short.
func v(replica, n int, value string) Version {
	return Version{Dot: Dot{Replica: replica, N: n}, Value: value}
}

// of is a state in short.
func of(c Context, versions ...Version) State {
	return State{Context: c, Versions: versions}
}

// same takes no list and an empty one for the same.
func same(a, b State) bool {
	return a.Context == b.Context && len(a.Versions) == len(b.Versions) &&
		(len(a.Versions) == 0 || reflect.DeepEqual(a.Versions, b.Versions))
}

// many are n versions of replica 3, from 1 on.
func many(n int) State {
	s := of(Context{0, 0, 0, n})
	for i := range n {
		s.Versions = append(s.Versions, v(3, i+1, "m"))
	}
	return s
}

func TestPut(t *testing.T) {
	both := of(Context{1, 1}, v(0, 1, "x"), v(1, 1, "y"))
	four := of(Context{2, 3, 1, 5}, v(0, 2, "a"), v(1, 1, "b"), v(1, 3, "c"), v(2, 1, "d"), v(3, 5, "e"))
	for _, c := range []struct {
		name    string
		before  State
		replica int
		seen    Context
		want    State
	}{
		{"a key that is not known", State{}, 2, Context{}, of(Context{0, 0, 1}, v(2, 1, "z"))},
		{"the document's example", both, 1, Context{1}, of(Context{1, 2}, v(1, 1, "y"), v(1, 2, "z"))},
		{"by somebody who has written nothing", both, 2, Context{}, of(Context{1, 1, 1}, v(0, 1, "x"), v(1, 1, "y"), v(2, 1, "z"))},
		{"in the first place", both, 0, Context{1}, of(Context{2, 1}, v(0, 2, "z"), v(1, 1, "y"))},
		{"in the midst", four, 1, Context{0, 2}, of(Context{2, 4, 1, 5}, v(0, 2, "a"), v(1, 3, "c"), v(1, 4, "z"), v(2, 1, "d"), v(3, 5, "e"))},
		{"all seen", four, 0, Context{9, 9, 9, 9}, of(Context{10, 9, 9, 9}, v(0, 10, "z"))},
		{"just not seen", four, 3, Context{1, 0, 0, 4}, of(Context{2, 3, 1, 6}, v(0, 2, "a"), v(1, 1, "b"), v(1, 3, "c"), v(2, 1, "d"), v(3, 5, "e"), v(3, 6, "z"))},
		{"just seen", four, 3, Context{2, 1, 1, 5}, of(Context{2, 3, 1, 6}, v(1, 3, "c"), v(3, 6, "z"))},
		{"the greater number is the context's", of(Context{7}), 0, Context{3, 8}, of(Context{8, 8}, v(0, 8, "z"))},
		{"the greater number is what was seen", of(Context{3, 8}), 0, Context{7}, of(Context{8, 8}, v(0, 8, "z"))},
		{"up to the greatest number", of(Context{api.MaxCount - 1}), 0, Context{}, of(Context{api.MaxCount}, v(0, api.MaxCount, "z"))},
		{"others are at the greatest number", of(Context{0, api.MaxCount}), 0, Context{0, 0, api.MaxCount}, of(Context{1, api.MaxCount, api.MaxCount}, v(0, 1, "z"))},
	} {
		if got, e := c.before.Put(c.replica, "z", c.seen); !same(got, c.want) || e != api.OK {
			t.Errorf("P4: Put, %s: %v, %d, want %v", c.name, got, e, c.want)
		}
	}
}

func TestPutAtTheLimits(t *testing.T) {
	for _, c := range []struct {
		name    string
		before  State
		replica int
		seen    Context
		want    api.Errno
		left    int
	}{
		{"one less than the most", many(api.MaxVersions - 1), 0, Context{}, api.OK, api.MaxVersions},
		{"the most", many(api.MaxVersions), 0, Context{}, api.ErrLimit, 0},
		{"the most, one seen", many(api.MaxVersions), 0, Context{0, 0, 0, 1}, api.OK, api.MaxVersions},
		{"more than the most, as joining may bring", many(api.MaxVersions + 5), 0, Context{0, 0, 0, 4}, api.ErrLimit, 0},
		{"the most not seen of more", many(api.MaxVersions + 5), 0, Context{0, 0, 0, 5}, api.ErrLimit, 0},
		{"fewer not seen of more", many(api.MaxVersions + 5), 0, Context{0, 0, 0, 6}, api.OK, api.MaxVersions},
		{"the greatest number in the context", of(Context{0, api.MaxCount}), 1, Context{}, api.ErrLimit, 0},
		{"the greatest number in what was seen", State{}, 1, Context{0, api.MaxCount}, api.ErrLimit, 0},
	} {
		if got, e := c.before.Put(c.replica, "z", c.seen); e != c.want || len(got.Versions) != c.left {
			t.Errorf("P4: Put, %s: %d versions, %d, want %d, %d", c.name, len(got.Versions), e, c.left, c.want)
		} else if e != api.OK && !same(got, State{}) {
			t.Errorf("P1: Put, %s: %v beside an error", c.name, got)
		}
	}
}

func TestDelete(t *testing.T) {
	both := of(Context{1, 2}, v(0, 1, "x"), v(1, 2, "y"))
	for _, c := range []struct {
		name   string
		before State
		seen   Context
		want   State
		errno  api.Errno
	}{
		{"a key that is not known", State{}, Context{9, 9, 9, 9}, State{}, api.ErrNone},
		{"no version", of(Context{1, 2}), Context{9, 9, 9, 9}, State{}, api.ErrNone},
		{"none seen", both, Context{0, 1, 9, 9}, State{}, api.ErrNone},
		{"one seen", both, Context{1, 1}, of(Context{1, 2}, v(1, 2, "y")), api.OK},
		{"the other one seen", both, Context{0, 2, 0, 4}, of(Context{1, 2, 0, 4}, v(0, 1, "x")), api.OK},
		{"both seen", both, Context{1, 2}, of(Context{1, 2}), api.OK},
		{"more seen than is known", both, Context{7, 2, 3}, of(Context{7, 2, 3}), api.OK},
		{"at the greatest number", both, Context{api.MaxCount, api.MaxCount}, of(Context{api.MaxCount, api.MaxCount}), api.OK},
		{"more than the most versions", many(api.MaxVersions + 5), Context{0, 0, 0, api.MaxVersions + 4}, of(Context{0, 0, 0, api.MaxVersions + 5}, v(3, api.MaxVersions+5, "m")), api.OK},
	} {
		if got, e := c.before.Delete(c.seen); !same(got, c.want) || e != c.errno {
			t.Errorf("P4: Delete, %s: %v, %d, want %v, %d", c.name, got, e, c.want, c.errno)
		}
	}
}

// TestWritesLeaveTheStateBefore: neither the versions nor the spare room behind
// them may be written to.
func TestWritesLeaveTheStateBefore(t *testing.T) {
	room := []Version{v(0, 1, "x"), v(1, 1, "y"), v(2, 1, "spare"), v(3, 1, "spare")}
	kept := append([]Version{}, room...)
	before := of(Context{1, 1}, room[:2]...)
	for _, seen := range []Context{{}, {1}, {0, 1}, {1, 1}} {
		for replica := range api.Replicas {
			before.Put(replica, "z", seen)
		}
		before.Delete(seen)
		if !reflect.DeepEqual(room, kept) || before.Context != (Context{1, 1}) {
			t.Fatalf("P2: a write by one who had seen %v changed the state before it: %v", seen, room)
		}
	}
}

func TestSound(t *testing.T) {
	for i := range api.Replicas {
		for n, want := range map[int]bool{0: true, 1: true, api.MaxCount: true, api.MaxCount + 1: false, -1: false, 1 << 62: false, -1 << 63: false} {
			var c Context
			c[i] = n
			if c.Sound() != want {
				t.Errorf("P4: %v is sound: %v", c, !want)
			}
		}
	}
}

func TestIsKey(t *testing.T) {
	for n := range 12 {
		if got, want := IsKey(strings.Repeat("k", n)), n >= 1 && n <= 8; got != want {
			t.Errorf("P4: %d bytes are a key: %v", n, got)
		}
	}
	for b := range 256 {
		want := b >= 'a' && b <= 'z'
		for place := range api.MaxKey {
			key := []byte("mmmmmmmm")
			key[place] = byte(b)
			if IsKey(string(key)) != want {
				t.Errorf("P4: %q is a key: %v", key, !want)
			}
		}
		if IsKey(string([]byte{byte(b)})) != want {
			t.Errorf("P4: the byte %d is a key: %v", b, !want)
		}
	}
}

func TestIsValue(t *testing.T) {
	for n := range 16 {
		for _, b := range []string{"\x00", "v", "\xff"} {
			if got, want := IsValue(strings.Repeat(b, n)), n <= 12; got != want {
				t.Errorf("P4: %d bytes %q are a value: %v", n, b, got)
			}
		}
	}
}

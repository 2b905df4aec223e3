package attune_test

import (
	"fmt"
	"math/rand"
	"sort"
	"testing"

	"attune/api"
	"attune/attune"
)

// model does what P4 says for one replica's writes, in another way than the
// program: it keeps every write, and marks those that are gone.
type model struct {
	replica int
	writes  map[string][]write
	context map[string]api.Context
}

type write struct {
	n     int
	value string
	gone  bool
}

// unseen counts what is there and was not seen, and what is there and was.
func (m *model) unseen(key string, seen api.Context) (not, was int) {
	for _, w := range m.writes[key] {
		switch {
		case w.gone:
		case w.n > seen[m.replica]:
			not++
		default:
			was++
		}
	}
	return not, was
}

// see marks what was seen as gone, and learns of what was seen.
func (m *model) see(key string, seen api.Context) {
	for i, w := range m.writes[key] {
		if w.n <= seen[m.replica] {
			m.writes[key][i].gone = true
		}
	}
	c := m.context[key]
	for i := range c {
		if seen[i] > c[i] {
			c[i] = seen[i]
		}
	}
	m.context[key] = c
}

func (m *model) put(key, value string, seen api.Context) api.Errno {
	not, _ := m.unseen(key, seen)
	if not >= 20 || m.context[key][m.replica] == 1000000 || seen[m.replica] == 1000000 {
		return api.ErrLimit
	}
	m.see(key, seen)
	c := m.context[key]
	c[m.replica]++
	m.context[key] = c
	m.writes[key] = append(m.writes[key], write{n: c[m.replica], value: value})
	return api.OK
}

func (m *model) delete(key string, seen api.Context) api.Errno {
	if _, was := m.unseen(key, seen); was == 0 {
		return api.ErrNone
	}
	m.see(key, seen)
	return api.OK
}

func (m *model) told(key string) string {
	out := ""
	for _, w := range m.writes[key] {
		if !w.gone {
			out += fmt.Sprintf("%d.%d:%q ", m.replica, w.n, w.value)
		}
	}
	return out + fmt.Sprint(m.context[key], api.OK)
}

func (m *model) keys() []string {
	var out []string
	for key := range m.writes {
		if not, _ := m.unseen(key, api.Context{}); not > 0 {
			out = append(out, key)
		}
	}
	sort.Strings(out)
	return out
}

// texts are those of the segments, from the model alone.
func (m *model) texts() [64]string {
	var known []string
	for key := range m.context {
		known = append(known, key)
	}
	sort.Strings(known)
	var out [64]string
	for _, key := range known {
		out[segmentOf(key)] += m.record(key)
	}
	return out
}

func (m *model) record(key string) string {
	out := string([]byte{byte(len(key))}) + key
	for _, n := range m.context[key] {
		out += number(n)
	}
	not, _ := m.unseen(key, api.Context{})
	out += number(not)
	for _, w := range m.writes[key] {
		if !w.gone {
			out += string([]byte{byte(m.replica)}) + number(w.n) + string([]byte{byte(len(w.value))}) + w.value
		}
	}
	return out
}

// someContext is mostly near what the key's context is, as callers' are.
func someContext(rnd *rand.Rand, near api.Context) api.Context {
	var c api.Context
	for i := range c {
		switch rnd.Intn(40) {
		case 0:
			c[i] = api.MaxCount - rnd.Intn(3)
		case 1, 2, 3, 4, 5, 6, 7, 8, 9:
			c[i] = max(0, near[i]-rnd.Intn(22))
		case 10:
			c[i] = min(api.MaxCount, near[i]+rnd.Intn(3))
		}
	}
	return c
}

// TestAgainstModel is the same at every run: the seeds are the replicas' numbers.
func TestAgainstModel(t *testing.T) {
	met := map[api.Errno]int{}
	for n := range api.Replicas {
		rnd := rand.New(rand.NewSource(int64(n)))
		for range 30 {
			r := made(t, n)
			m := &model{n, map[string][]write{}, map[string]api.Context{}}
			for i := range 300 {
				step(t, rnd, r, m, met)
				if i%50 == 0 {
					tree(t, r, m.texts())
				}
			}
			if got, want := fmt.Sprint(r.Keys()), fmt.Sprint(m.keys()); got != want {
				t.Fatalf("P4: Keys(): %s, want %s", got, want)
			}
		}
	}
	for _, e := range []api.Errno{api.OK, api.ErrLimit, api.ErrNone} {
		if met[e] < 100 {
			t.Errorf("the answer %d was met %d times only", e, met[e])
		}
	}
}

// step does one write on both, and holds what they tell against each other.
func step(t *testing.T, rnd *rand.Rand, r *attune.Replica, m *model, met map[api.Errno]int) {
	t.Helper()
	key := []string{"a", "b", "ab", "zzzzzzzz"}[rnd.Intn(4)]
	seen := someContext(rnd, m.context[key])
	before := m.told(key)
	var got, want api.Errno
	what := "Delete"
	if rnd.Intn(8) > 0 {
		what = "Put"
		value := fmt.Sprint(rnd.Intn(100))
		got, want = r.Put(key, value, seen), m.put(key, value, seen)
	} else {
		got, want = r.Delete(key, seen), m.delete(key, seen)
	}
	met[want]++
	if got != want || told(r, key) != m.told(key) {
		t.Fatalf("P4: replica %d, %s(%s, %v) at %s: %d, %s, want %d, %s", m.replica, what, key, seen, before, got, told(r, key), want, m.told(key))
	}
}

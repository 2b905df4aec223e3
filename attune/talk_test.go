package attune_test

import (
	"encoding/binary"
	"fmt"
	"maps"
	"math/rand"
	"slices"
	"testing"

	"attune/api"
	"attune/attune"
)

// talk lets a hear b's Hello, and each letter that comes of it the other one:
// all that were sent.
func talk(t *testing.T, a, b *attune.Replica) []string {
	t.Helper()
	sent := []string{b.Hello()}
	for i := 0; i < 20; i++ {
		letter, e := []*attune.Replica{a, b}[i%2].Hear(sent[i])
		is(t, "P6: Hear", e, api.OK)
		if letter == "" {
			break
		}
		sent = append(sent, letter)
	}
	return sent
}

func kinds(sent []string) string {
	out := ""
	for _, letter := range sent {
		out += letter[:1]
	}
	return out
}

// toldOf are the segments that an S or a T tells of.
func toldOf(letter string) []int {
	var out []int
	place := 2
	take := func(bytes int) int {
		place += bytes
		if bytes == 4 {
			return int(binary.BigEndian.Uint32([]byte(letter[place-4 : place])))
		}
		return int(letter[place-1])
	}
	for range int(letter[1]) {
		out = append(out, take(1))
		for records := take(4); records > 0; records-- {
			place += take(1) + 16
			for versions := take(4); versions > 0; versions-- {
				place += 5
				place += take(1)
			}
		}
	}
	return out
}

// segmentTexts are all that Segment tells.
func segmentTexts(r *attune.Replica) [64]string {
	var out [64]string
	for n := range out {
		out[n], _ = r.Segment(n)
	}
	return out
}

// wholeTalk is one with all that P7 says of it.
func wholeTalk(t *testing.T, a, b *attune.Replica) {
	t.Helper()
	textsA, textsB := segmentTexts(a), segmentTexts(b)
	sent := talk(t, a, b)
	if len(sent) > 6 {
		t.Fatalf("P7: %d letters were sent: %s", len(sent), kinds(sent))
	}
	want := "RNNNST"
	if textsA == textsB {
		want = "R"
	}
	if got := kinds(sent); got != want {
		t.Fatalf("P7: the letters %s were sent, want %s", got, want)
	}
	var differ []int
	for n := range textsA {
		if textsA[n] != textsB[n] {
			differ = append(differ, n)
		}
	}
	for _, letter := range sent {
		if letter[0] == 'S' || letter[0] == 'T' {
			if got := toldOf(letter); !slices.Equal(got, differ) {
				t.Fatalf("P7: a letter with the segments %v, those that differ are %v", got, differ)
			}
		}
	}
	if segmentTexts(a) != segmentTexts(b) || fmt.Sprint(digests(t, a)) != fmt.Sprint(digests(t, b)) {
		t.Fatalf("P7: behind a talk the two do not know the same")
	}
}

func TestTalks(t *testing.T) {
	for _, count := range []int{0, 1, 2, 10, 100, 600} {
		for _, other := range []int{0, 1, 30, 600} {
			a, list := some(t, 0, count)
			b, more := some(t, 3, other)
			wholeTalk(t, a, b)
			list = append(list, more...)
			if whole(a, list...) != whole(b, list...) {
				t.Errorf("P7: behind a talk the two tell other things")
			}
			wholeTalk(t, a, b)
			wholeTalk(t, b, a)
			is(t, "P4: Put", b.Put("onemore", "x", api.Context{}), api.OK)
			wholeTalk(t, b, a)
		}
	}
}

// TestTalkOfOneSegment: two differ by each segment alone.
func TestTalkOfOneSegment(t *testing.T) {
	met := map[int]int{}
	for i := 0; len(met) < 64; i++ {
		key := string([]byte{byte('a' + i%26), byte('a' + i/26%26)})
		if met[segmentOf(key)]++; met[segmentOf(key)] > 1 {
			continue
		}
		a, _ := some(t, 0, 40)
		b := made(t, 1)
		talk(t, a, b)
		_, seen, _ := b.Get(key)
		is(t, "P4: Put", b.Put(key, "other", seen), api.OK)
		wholeTalk(t, a, b)
	}
}

// dot names a version of a key.
type dot struct {
	key        string
	replica, n int
}

// known is what somebody knows, in another way than the program's: all the
// versions that ever came to him, and those that he knows to be gone.
type known struct {
	come map[dot]string
	gone map[dot]bool
}

func nothing() known {
	return known{map[dot]string{}, map[dot]bool{}}
}

// only is what is known of some segments.
func (k known) only(segments []int) known {
	out := nothing()
	for d, value := range k.come {
		if slices.Contains(segments, segmentOf(d.key)) {
			out.come[d] = value
		}
	}
	for d := range k.gone {
		if slices.Contains(segments, segmentOf(d.key)) {
			out.gone[d] = true
		}
	}
	return out
}

func (k known) learn(other known) {
	maps.Copy(k.come, other.come)
	maps.Copy(k.gone, other.gone)
}

// overwrite marks what one who has seen that knows of a key as gone.
func (k known) overwrite(key string, seen api.Context) {
	for replica, last := range seen {
		for n := 1; n <= last; n++ {
			k.gone[dot{key, replica, n}] = true
		}
	}
}

// told is what Get must tell of a key.
func (k known) told(key string) string {
	var context api.Context
	for d := range k.gone {
		if d.key == key {
			context[d.replica] = max(context[d.replica], d.n)
		}
	}
	for d := range k.come {
		if d.key == key {
			context[d.replica] = max(context[d.replica], d.n)
		}
	}
	out := ""
	for replica, last := range context {
		for n := 1; n <= last; n++ {
			d := dot{key, replica, n}
			if value, ok := k.come[d]; ok && !k.gone[d] {
				out += fmt.Sprintf("%d.%d:%q ", replica, n, value)
			}
		}
	}
	return out + fmt.Sprint(context, api.OK)
}

// world: four replicas, what each must know, and the letters on their way.
type world struct {
	replicas [4]*attune.Replica
	known    [4]known
	way      []letterOnItsWay
	serial   int
}

// letterOnItsWay has beside its text what its writer knew of what it tells of.
type letterOnItsWay struct {
	text string
	known
}

// write lets somebody put or delete who has seen what he, or somebody else,
// was told by Get, or less.
func (w *world) write(t *testing.T, rnd *rand.Rand, key string) {
	t.Helper()
	i := rnd.Intn(4)
	_, seen, _ := w.replicas[[]int{i, rnd.Intn(4)}[rnd.Intn(2)]].Get(key)
	if rnd.Intn(4) == 0 {
		// One who has seen less has seen it of each replica by itself.
		seen[rnd.Intn(4)] /= 2
	}
	if rnd.Intn(4) == 0 {
		if w.replicas[i].Delete(key, seen) == api.OK {
			w.known[i].overwrite(key, seen)
		}
		return
	}
	w.serial++
	value := fmt.Sprint(w.serial)
	if w.replicas[i].Put(key, value, seen) != api.OK {
		return
	}
	w.known[i].overwrite(key, seen)
	_, context, _ := w.replicas[i].Get(key)
	w.known[i].come[dot{key, i, context[i]}] = value
}

// hear lets somebody hear some letter, and sends what comes of it.
func (w *world) hear(t *testing.T, rnd *rand.Rand) {
	t.Helper()
	i, k := rnd.Intn(4), rnd.Intn(len(w.way))
	letter := w.way[k]
	if rnd.Intn(3) == 0 {
		w.way = slices.Delete(w.way, k, k+1)
	}
	answer, e := w.replicas[i].Hear(letter.text)
	is(t, "P6: Hear", e, api.OK)
	w.known[i].learn(letter.known)
	if answer == "" {
		return
	}
	on := letterOnItsWay{answer, nothing()}
	if answer[0] == 'S' || answer[0] == 'T' {
		on.known = w.known[i].only(toldOf(answer))
	}
	w.way = append(w.way, on)
}

func (w *world) holds(t *testing.T, keys []string) {
	t.Helper()
	for i, r := range w.replicas {
		for _, key := range keys {
			if got, want := told(r, key), w.known[i].told(key); got != want {
				t.Fatalf("P7: replica %d knows of %s: %s, want %s", i, key, got, want)
			}
		}
		tree(t, r, texts(r, keys...))
	}
}

// TestNothingIsLost: letters are lost, late, come twice and to anybody; a
// version is gone just where somebody has written or deleted who had seen it.
func TestNothingIsLost(t *testing.T) {
	rnd := rand.New(rand.NewSource(9))
	list := append(ofOneSegment("a", 3), "b", "c", "zzzzzzzz")
	for range 25 {
		w := &world{}
		all := nothing()
		for i := range w.replicas {
			w.replicas[i], w.known[i] = made(t, i), nothing()
		}
		for step := range 250 {
			switch rnd.Intn(6) {
			case 0, 1:
				w.write(t, rnd, list[rnd.Intn(len(list))])
			case 2:
				w.way = append(w.way, letterOnItsWay{w.replicas[rnd.Intn(4)].Hello(), nothing()})
			default:
				if len(w.way) > 0 {
					w.hear(t, rnd)
				}
			}
			if step%25 == 0 {
				w.holds(t, list)
			}
		}
		w.holds(t, list)
		for i := range w.known {
			all.learn(w.known[i])
		}
		// Three talks bring all to one, three more all to the others.
		for i := range 6 {
			wholeTalk(t, w.replicas[0], w.replicas[1+i%3])
		}
		w.known = [4]known{all, all, all, all}
		w.holds(t, list)
	}
}

// TestJoiningInAnyOrder: who hears the same letters knows the same, whatever
// their order, and however often each came.
func TestJoiningInAnyOrder(t *testing.T) {
	rnd := rand.New(rand.NewSource(10))
	for range 40 {
		var heard []string
		for range 8 {
			heard = append(heard, oneKey([]string{"S", "T"}[rnd.Intn(2)], "k", drawnContext(rnd), v(0, 1, fmt.Sprint(rnd.Intn(3))), v(2, 1+rnd.Intn(3), fmt.Sprint(rnd.Intn(3)))))
		}
		first := made(t, 0)
		for _, letter := range heard {
			_, e := first.Hear(letter)
			is(t, "P6: Hear", e, api.OK)
		}
		for range 5 {
			other := made(t, 1)
			again := append(slices.Clone(heard), heard[rnd.Intn(8)], heard[rnd.Intn(8)])
			rnd.Shuffle(len(again), func(i, j int) { again[i], again[j] = again[j], again[i] })
			for _, letter := range again {
				other.Hear(letter)
			}
			if got, want := whole(other, "k"), whole(first, "k"); got != want {
				t.Fatalf("P7: joining in another order comes to %s, not %s", got, want)
			}
		}
	}
}

// drawnContext has seen the first dot of replica 0 and the first three of 2.
func drawnContext(rnd *rand.Rand) api.Context {
	return api.Context{1 + rnd.Intn(2), rnd.Intn(3), 3 + rnd.Intn(2), rnd.Intn(3)}
}

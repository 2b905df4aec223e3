package tree

import (
	"encoding/binary"
	"hash/fnv"
	"math"
	"runtime"
	"slices"
	"strings"
	"sync"
	"testing"
	"time"

	"attune/api"
)

// sum is the digest in another way than the program's.
func sum(text []byte) uint64 {
	h := fnv.New64a()
	h.Write(text)
	return h.Sum64()
}

func TestSum(t *testing.T) {
	for text, want := range map[string]uint64{
		"":  14695981039346656037,
		"a": 12638187200555641996,
	} {
		if got := Sum(text); got != want {
			t.Errorf("P5: the digest of %q: %d, want %d", text, got, want)
		}
	}
	every := make([]byte, 256)
	for i := range every {
		every[i] = byte(i)
		if got, want := Sum(string(every[i:i+1])), sum(every[i:i+1]); got != want {
			t.Errorf("P5: the digest of the byte %d: %d, want %d", i, got, want)
		}
	}
	for _, text := range []string{"ab", "ba", "\x00", "\x00\x00", "\u00e9\xff", string(every), strings.Repeat("long", 1000)} {
		if got, want := Sum(text), sum([]byte(text)); got != want {
			t.Errorf("P5: the digest of %.20q: %d, want %d", text, got, want)
		}
	}
}

func TestSegmentOf(t *testing.T) {
	met := map[int]int{}
	for a := byte('a'); a <= 'z'; a++ {
		for b := byte('a'); b <= 'z'; b++ {
			key := []byte{a, b}
			got := SegmentOf(string(key))
			if want := int(sum(key) % 64); got != want {
				t.Errorf("P5: the segment of %s: %d, want %d", key, got, want)
			}
			met[got]++
		}
	}
	if len(met) != api.Segments {
		t.Errorf("P5: all keys of two bytes are in %d segments", len(met))
	}
}

func TestLevels(t *testing.T) {
	if Root != 0 || Quarters != 1 || Sixteenths != 2 || Segments != 3 {
		t.Errorf("P5: the levels are %d, %d, %d, %d", Root, Quarters, Sixteenths, Segments)
	}
}

func TestHas(t *testing.T) {
	wide := map[int]int{0: 1, 1: 4, 2: 16, 3: 64}
	numbers := []int{0, 1, 3, 4, 15, 16, 63, 64, 255, 256, -1, 1 << 32, math.MaxInt, math.MinInt}
	for _, level := range []int{0, 1, 2, 3, 4, 5, 31, 32, 64, -1, -2, 1 << 32, math.MaxInt, math.MinInt} {
		for _, n := range numbers {
			if got, want := Has(level, n), n >= 0 && n < wide[level]; got != want {
				t.Errorf("P5: there is %d of level %d: %v", n, level, got)
			}
		}
	}
}

// text is another one for each segment, and none for some.
func text(segment int) string {
	return strings.Repeat(string(rune('A'+segment)), segment%5)
}

// want is a node's digest from the words of the document: its children's, from
// 4n on, of the next level.
func want(level, n int) uint64 {
	if level == 3 {
		return sum([]byte(text(n)))
	}
	var b []byte
	for child := 4 * n; child < 4*n+4; child++ {
		b = binary.BigEndian.AppendUint64(b, want(level+1, child))
	}
	return sum(b)
}

func TestDigest(t *testing.T) {
	for level, wide := range []int{1, 4, 16, 64} {
		for n := range wide {
			if got := Digest(level, n, text); got != want(level, n) {
				t.Errorf("P5: the digest of %d of level %d: %d, want %d", n, level, got, want(level, n))
			}
		}
	}
}

// TestDigestAsksForWhatIsBelow: each segment below the node once, no other one.
func TestDigestAsksForWhatIsBelow(t *testing.T) {
	for level, below := range []int{64, 16, 4, 1} {
		for n := range 64 / below {
			var lock sync.Mutex
			var asked []int
			Digest(level, n, func(segment int) string {
				lock.Lock()
				defer lock.Unlock()
				asked = append(asked, segment)
				return text(segment)
			})
			slices.Sort(asked)
			var wanted []int
			for i := range below {
				wanted = append(wanted, n*below+i)
			}
			if !slices.Equal(asked, wanted) {
				t.Errorf("P5: %d of level %d asked for %v", n, level, asked)
			}
		}
	}
}

// TestDigestWhateverIsDoneFirst lets the segments be done in other orders.
func TestDigestWhateverIsDoneFirst(t *testing.T) {
	for _, slow := range []func(int) bool{
		func(n int) bool { return n == 0 },
		func(n int) bool { return n%4 == 1 },
		func(n int) bool { return n < 32 },
	} {
		got := Digest(Root, 0, func(segment int) string {
			if slow(segment) {
				time.Sleep(time.Millisecond)
			}
			return text(segment)
		})
		if got != want(0, 0) {
			t.Errorf("P2: the root's digest hangs on what is done first: %d, want %d", got, want(0, 0))
		}
	}
}

func TestGoroutinesEnd(t *testing.T) {
	before := runtime.NumGoroutine()
	for range 100 {
		Digest(Root, 0, text)
	}
	// One that has told that it is done may need a moment to be gone.
	for range 1000 {
		if runtime.NumGoroutine() <= before {
			return
		}
		time.Sleep(time.Millisecond)
	}
	t.Errorf("P1: %d goroutines are left, of %d before", runtime.NumGoroutine(), before)
}

package letters

import (
	"encoding/binary"
	"hash/fnv"
	"math/rand"
	"testing"

	"attune/api"
)

// look asks whether a text is a letter in another way than the program: by one
// walk over places in it, where a place of -1 is none.
type look struct{ text string }

// at is the byte there, or -1.
func (l look) at(i int) int {
	if i < 0 || i >= len(l.text) {
		return -1
	}
	return int(l.text[i])
}

// number is the one of four bytes there, or -1.
func (l look) number(i int) int {
	if i < 0 || i+4 > len(l.text) {
		return -1
	}
	return int(binary.BigEndian.Uint32([]byte(l.text[i : i+4])))
}

func (l look) isLetter() bool {
	switch l.at(0) {
	case 'R':
		return len(l.text) == 9
	case 'N':
		return l.isNodes()
	case 'S', 'T':
		return l.isSegments()
	}
	return false
}

func (l look) isNodes() bool {
	level, count := l.at(1), l.at(2)
	if level < 0 || level > 2 || count < 1 || count > 64 || len(l.text) != 3+33*count {
		return false
	}
	for i := range count {
		n := l.at(3 + 33*i)
		if n >= []int{1, 4, 16}[level] || i > 0 && n <= l.at(3+33*(i-1)) {
			return false
		}
	}
	return true
}

func (l look) isSegments() bool {
	count, place, last := l.at(1), 2, -1
	if count < 1 || count > 64 {
		return false
	}
	for range count {
		n, records, key := l.at(place), l.number(place+1), ""
		if n <= last || n > 63 || records < 0 {
			return false
		}
		place += 5
		for ; records > 0; records-- {
			start := place
			if place = l.behindRecord(place, n); place < 0 {
				return false
			}
			next := l.text[start+1 : start+1+l.at(start)]
			if next <= key {
				return false
			}
			key = next
		}
		last = n
	}
	return place == len(l.text)
}

// behindRecord is the place behind a record of that segment, or -1.
func (l look) behindRecord(place, segment int) int {
	length := l.at(place)
	if length < 1 || length > 8 || place+1+length > len(l.text) {
		return -1
	}
	key := l.text[place+1 : place+1+length]
	h := fnv.New64a()
	h.Write([]byte(key))
	if h.Sum64()%64 != uint64(segment) {
		return -1
	}
	for _, b := range []byte(key) {
		if b < 'a' || b > 'z' {
			return -1
		}
	}
	place += 1 + length
	contexts, any := place, false
	for i := range 4 {
		n := l.number(contexts + 4*i)
		if n < 0 || n > 1000000 {
			return -1
		}
		any = any || n > 0
	}
	count, lastBy, lastN := l.number(contexts+16), -1, 0
	if count < 0 || !any {
		return -1
	}
	for place += 20; count > 0; count-- {
		by, n, value := l.at(place), l.number(place+1), l.at(place+5)
		if by < 0 || by > 3 || n < 1 || n > l.number(contexts+4*by) || value < 0 || value > 12 {
			return -1
		}
		if by < lastBy || by == lastBy && n <= lastN || place+6+value > len(l.text) {
			return -1
		}
		lastBy, lastN = by, n
		place += 6 + value
	}
	return place
}

// spoilt is a letter with some bytes changed, put in, taken out or doubled.
func spoilt(rnd *rand.Rand, text string) string {
	b := []byte(text)
	for range 1 + rnd.Intn(2) {
		i := rnd.Intn(len(b) + 1)
		j := min(len(b), i+1+rnd.Intn(8))
		switch rnd.Intn(6) {
		case 0:
			b = append(b[:i:i], b[j:]...)
		case 1:
			b = append(b[:j:j], b[i:]...)
		case 2:
			b = append(b[:i:i], append([]byte{byte(rnd.Intn(256))}, b[i:]...)...)
		default:
			if i < len(b) {
				b[i] = []byte{0, 1, 2, 3, 4, b[i] + 1, b[i] - 1, 255, 'a', byte(rnd.Intn(256))}[rnd.Intn(10)]
			}
		}
	}
	return string(b)
}

func TestReadDrawn(t *testing.T) {
	rnd := rand.New(rand.NewSource(11))
	met := map[bool]int{}
	for _, l := range good(t) {
		text := l.Text()
		if !(look{text}).isLetter() {
			t.Fatalf("the test is wrong: %q", text)
		}
		for range 20000 {
			x := spoilt(rnd, text)
			want := look{x}.isLetter()
			met[want]++
			told, e := Read(x)
			if (e == api.OK) != want || e != api.OK && e != api.ErrForm {
				t.Fatalf("P6: reading %q: %d, but it is a letter: %v", x, e, want)
			}
			if want && told.Text() != x {
				t.Fatalf("P6: reading %q gives %q", x, told.Text())
			}
			if !want && told != nil {
				t.Fatalf("P1: reading %q gives %v beside an error", x, told)
			}
		}
	}
	if met[true] < 1000 || met[false] < 1000 {
		t.Errorf("the test is wrong: %v", met)
	}
}

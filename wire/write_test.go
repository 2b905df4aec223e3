package wire

import (
	"strings"
	"testing"

	"attune/state"
)

func v(replica, n int, value string) state.Version {
	return state.Version{Dot: state.Dot{Replica: replica, N: n}, Value: value}
}

func TestNumbers(t *testing.T) {
	for n, want := range map[int]string{
		0:          "\x00\x00\x00\x00",
		1:          "\x00\x00\x00\x01",
		255:        "\x00\x00\x00\xff",
		256:        "\x00\x00\x01\x00",
		1000000:    "\x00\x0f\x42\x40",
		0x12345678: "\x12\x34\x56\x78",
	} {
		if got := string(AppendNumber([]byte("-"), n)); got != "-"+want {
			t.Errorf("P5: the number %d: %q, want %q", n, got, want)
		}
	}
	for d, want := range map[uint64]string{
		0:                    "\x00\x00\x00\x00\x00\x00\x00\x00",
		0x123456789abcdef0:   "\x12\x34\x56\x78\x9a\xbc\xde\xf0",
		14695981039346656037: "\xcb\xf2\x9c\xe4\x84\x22\x23\x25",
		1<<64 - 1:            "\xff\xff\xff\xff\xff\xff\xff\xff",
	} {
		if got := string(AppendDigest([]byte("-"), d)); got != "-"+want {
			t.Errorf("P5: the digest %d: %q, want %q", d, got, want)
		}
	}
}

func TestRecord(t *testing.T) {
	nought := "\x00\x00\x00\x00"
	for _, c := range []struct {
		name string
		Record
		want string
	}{
		{"a context alone", Record{"zz", state.State{Context: state.Context{0, 1, 258, 0}}},
			"\x02zz" + nought + "\x00\x00\x00\x01" + "\x00\x00\x01\x02" + nought + nought},
		{"an empty value", Record{"a", state.State{Context: state.Context{3}, Versions: []state.Version{v(0, 3, "")}}},
			"\x01a" + "\x00\x00\x00\x03" + nought + nought + nought + "\x00\x00\x00\x01" + "\x00" + "\x00\x00\x00\x03" + "\x00"},
		{"versions of several replicas", Record{"abcdefgh", state.State{
			Context:  state.Context{1, 2, 0, 1000000},
			Versions: []state.Version{v(0, 1, "x"), v(1, 1, "\x00\xff"), v(1, 2, "z"), v(3, 1000000, "123456789012")}}},
			"\x08abcdefgh" + "\x00\x00\x00\x01" + "\x00\x00\x00\x02" + nought + "\x00\x0f\x42\x40" + "\x00\x00\x00\x04" +
				"\x00" + "\x00\x00\x00\x01" + "\x01x" +
				"\x01" + "\x00\x00\x00\x01" + "\x02\x00\xff" +
				"\x01" + "\x00\x00\x00\x02" + "\x01z" +
				"\x03" + "\x00\x0f\x42\x40" + "\x0c123456789012"},
	} {
		if got := string(AppendRecords([]byte("-"), []Record{c.Record})); got != "-"+c.want {
			t.Errorf("P5: a record with %s: %q, want %q", c.name, got, c.want)
		}
	}
}

// TestManyVersions: joining may bring more of them than one byte tells.
func TestManyVersions(t *testing.T) {
	r := Record{Key: "k", State: state.State{Context: state.Context{300}}}
	for n := range 300 {
		r.Versions = append(r.Versions, v(0, n+1, ""))
	}
	got := string(AppendRecords(nil, []Record{r}))
	if head := "\x01k\x00\x00\x01\x2c" + strings.Repeat("\x00", 12) + "\x00\x00\x01\x2c"; !strings.HasPrefix(got, head) || len(got) != len(head)+300*6 {
		t.Errorf("P5: a record with 300 versions has %d bytes: %.40q", len(got), got)
	}
}

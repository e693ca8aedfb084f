package packed

import (
	"maps"
	"strings"
	"testing"

	"hint/layer"
)

func said(gone []string, entries ...layer.Entry) layer.Layer {
	l := layer.Layer{}
	for _, name := range gone {
		l.TakeAway(name)
	}
	for _, entry := range entries {
		l.Put(entry)
	}
	return l
}

var cases = []struct {
	what string
	said layer.Layer
	want string
}{
	{"nothing", said(nil), "\x00" + "\x00\x00\x00\x00\x00\x00"},
	{"gone names by their bytes",
		said([]string{"b", "abc", "a", "0", "ab"}),
		"\x05\x010\x01a\x02ab\x03abc\x01b" + "\x00\x00\x00\x00\x00\x00"},
	{"one entry",
		said(nil, layer.Entry{Name: "n", Text: "A b", Weight: 1000000, Tags: 255}),
		"\x00" + "\x00\x0f\x42\x40\x00\x01" + "\x03a b\x0f\x42\x40\x01\x01n\x03A b\x0f\x42\x40\xff\x00"},
	{"entries of one node by their names, not by weights or texts as handed in",
		said(nil, layer.Entry{Name: "b", Text: "XY", Weight: 9}, layer.Entry{Name: "a", Text: "xy", Weight: 1}, layer.Entry{Name: "ab", Text: "xY", Weight: 5}),
		"\x00" + "\x00\x00\x00\x09\x00\x01" + "\x02xy\x00\x00\x09\x03\x01a\x02xy\x00\x00\x01\x00\x02ab\x02xY\x00\x00\x05\x00\x01b\x02XY\x00\x00\x09\x00\x00"},
	{"a text that is the beginning of another one",
		said(nil, layer.Entry{Name: "a", Text: "new", Weight: 2}, layer.Entry{Name: "b", Text: "News", Weight: 1}),
		"\x00" + "\x00\x00\x00\x02\x00\x01" + "\x03new\x00\x00\x02\x01\x01a\x03new\x00\x00\x02\x00\x01" + "\x01s\x00\x00\x01\x01\x01b\x04News\x00\x00\x01\x00\x00"},
	{"texts that part, beside gone names",
		said([]string{"z"}, layer.Entry{Name: "a", Text: "ab~"}, layer.Entry{Name: "b", Text: "AB "}, layer.Entry{Name: "c", Text: "b", Weight: 256}),
		"\x01\x01z" + "\x00\x00\x01\x00\x00\x02" +
			"\x02ab\x00\x00\x00\x00\x02" + "\x01 \x00\x00\x00\x01\x01b\x03AB \x00\x00\x00\x00\x00" + "\x01~\x00\x00\x00\x01\x01a\x03ab~\x00\x00\x00\x00\x00" +
			"\x01b\x00\x01\x00\x01\x01c\x01b\x00\x01\x00\x00\x00"},
}

func TestPack(t *testing.T) {
	for _, c := range cases {
		before := maps.Clone(c.said)
		if got := Pack(c.said); got != c.want {
			t.Errorf("%s: %q, want %q", c.what, got, c.want)
		}
		if !maps.Equal(c.said, before) {
			t.Errorf("%s: Pack changed the layer", c.what)
		}
	}
}

func TestUnpack(t *testing.T) {
	for _, c := range cases {
		if got, ok := Unpack(c.want); !ok || !maps.Equal(got, c.said) {
			t.Errorf("%s: %v, %v, want %v", c.what, got, ok, c.said)
		}
	}
}

func TestUnpackOfWrongLength(t *testing.T) {
	for _, c := range cases {
		for n := range len(c.want) {
			refused(t, c.want[:n])
		}
		refused(t, c.want+"\x00")
		refused(t, c.want+c.want)
	}
	refused(t, strings.Repeat("\xff", 4000))
	refused(t, "\x00"+strings.Repeat("\x00\x00\x00\x00\x00\x01", 600))
}

func refused(t *testing.T, packed string) {
	t.Helper()
	if got, ok := Unpack(packed); ok || got != nil {
		t.Errorf("Unpack(%.60q) = %v, %v", packed, got, ok)
	}
}

func TestUnpackOfAnyByteEnds(t *testing.T) {
	for _, c := range cases {
		for at := range len(c.want) {
			for b := range 256 {
				Unpack(c.want[:at] + string([]byte{byte(b)}) + c.want[at+1:])
			}
		}
	}
}

func TestGuardTakesDamageAlone(t *testing.T) {
	if !guard(func() {}) {
		t.Errorf("a sound reading is told as damaged")
	}
	if guard(func() { panic(damage{}) }) {
		t.Errorf("damage is told as a sound reading")
	}
	defer func() {
		if caught := recover(); caught != "other" {
			t.Errorf("another panic came out as %v", caught)
		}
	}()
	guard(func() { panic("other") })
	t.Errorf("another panic was swallowed")
}

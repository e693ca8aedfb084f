package packed

import (
	"maps"
	"strconv"
	"strings"
	"testing"

	"hint/layer"
)

func said(gone []string, entries ...layer.Entry) layer.Layer {
	l := layer.Layer{}
	for _, name := range gone {
		l.TakeAway(name)
	}
	for _, entry := range entries {
		l.Put(entry)
	}
	return l
}

var cases = []struct {
	what string
	said layer.Layer
	want string
}{
	{"gone names by their bytes",
		said([]string{"b", "abc", "a", "0", "ab"}),
		"\x05\x010\x01a\x02ab\x03abc\x01b" + "\x00\x00\x00\x00\x00\x00"},
	{"one entry",
		said(nil, layer.Entry{Name: "n", Text: "A b", Weight: 1000000, Tags: 255}),
		"\x00" + "\x00\x0f\x42\x40\x00\x01" + "\x03a b\x0f\x42\x40\x01\x01n\x03A b\x0f\x42\x40\xff\x00"},
	{"entries of one node by their names, not by weights or texts as handed in",
		said(nil, layer.Entry{Name: "b", Text: "XY", Weight: 9}, layer.Entry{Name: "a", Text: "xy", Weight: 1}, layer.Entry{Name: "ab", Text: "xY", Weight: 5}),
		"\x00" + "\x00\x00\x00\x09\x00\x01" + "\x02xy\x00\x00\x09\x03\x01a\x02xy\x00\x00\x01\x00\x02ab\x02xY\x00\x00\x05\x00\x01b\x02XY\x00\x00\x09\x00\x00"},
	{"a text that is the beginning of another one",
		said(nil, layer.Entry{Name: "a", Text: "new", Weight: 2}, layer.Entry{Name: "b", Text: "News", Weight: 1}),
		"\x00" + "\x00\x00\x00\x02\x00\x01" + "\x03new\x00\x00\x02\x01\x01a\x03new\x00\x00\x02\x00\x01" + "\x01s\x00\x00\x01\x01\x01b\x04News\x00\x00\x01\x00\x00"},
	{"texts that part, beside gone names",
		said([]string{"z"}, layer.Entry{Name: "a", Text: "ab~"}, layer.Entry{Name: "b", Text: "AB "}, layer.Entry{Name: "c", Text: "b", Weight: 256}),
		"\x01\x01z" + "\x00\x00\x01\x00\x00\x02" +
			"\x02ab\x00\x00\x00\x00\x02" + "\x01 \x00\x00\x00\x01\x01b\x03AB \x00\x00\x00\x00\x00" + "\x01~\x00\x00\x00\x01\x01a\x03ab~\x00\x00\x00\x00\x00" +
			"\x01b\x00\x01\x00\x01\x01c\x01b\x00\x01\x00\x00\x00"},
}

func TestPack(t *testing.T) {
	for _, c := range cases {
		before := maps.Clone(c.said)
		if got := Pack(c.said); got != c.want {
			t.Errorf("%s: %q, want %q", c.what, got, c.want)
		}
		if !maps.Equal(c.said, before) {
			t.Errorf("%s: Pack changed the layer", c.what)
		}
	}
}

func TestUnpack(t *testing.T) {
	for _, c := range cases {
		if got, ok := Unpack(c.want); !ok || !maps.Equal(got, c.said) {
			t.Errorf("%s: %v, %v, want %v", c.what, got, ok, c.said)
		}
	}
}

// TestEachTellsPlaces: each name once, where its length is written.
func TestEachTellsPlaces(t *testing.T) {
	for _, c := range cases {
		told, last := layer.Layer{}, 0
		sound := Each(c.want, func(at int, name string, saying layer.Saying) {
			if _, twice := told[name]; twice || at <= last || !strings.HasPrefix(c.want[at+1:], name) || int(c.want[at]) != len(name) {
				t.Errorf("%s: %q at %d", c.what, name, at)
			}
			told[name], last = saying, at
		})
		if !sound || !maps.Equal(told, c.said) {
			t.Errorf("%s: %v, %v, want %v", c.what, told, sound, c.said)
		}
		if Each(c.want+"\x00", func(int, string, layer.Saying) {}) {
			t.Errorf("%s: a byte too many is told as sound", c.what)
		}
	}
}

func TestUnpackOfWrongLength(t *testing.T) {
	for _, c := range cases {
		for n := range len(c.want) {
			refused(t, c.want[:n])
		}
		refused(t, c.want+"\x00")
		refused(t, c.want+c.want)
	}
	refused(t, strings.Repeat("\xff", 4000))
	refused(t, "\x00"+strings.Repeat("\x00\x00\x00\x00\x00\x01", 1<<20))
	refused(t, "\x00\x00\x00\x00\x00\x00\x01"+strings.Repeat("\x01a\x00\x00\x00\x00\x01", 1<<20))
}

func refused(t *testing.T, packed string) {
	t.Helper()
	if got, ok := Unpack(packed); ok || got != nil {
		t.Errorf("Unpack(%.60q) = %v, %v", packed, got, ok)
	}
}

// TestUnpackOfAnyByte: what is taken is what Pack writes of it.
func TestUnpackOfAnyByte(t *testing.T) {
	for _, c := range cases {
		for at := range len(c.want) {
			for b := range 256 {
				spoilt := c.want[:at] + string([]byte{byte(b)}) + c.want[at+1:]
				if got, ok := Unpack(spoilt); ok && Pack(got) != spoilt {
					t.Errorf("Unpack(%q) = %v, which is packed as %q", spoilt, got, Pack(got))
				}
			}
		}
	}
}

// TestUnpackOfOtherForms: they tell as much, but Pack would write them
// otherwise.
func TestUnpackOfOtherForms(t *testing.T) {
	const (
		root = "\x00\x00\x00\x00\x00" // and how many children
		a    = "\x01a\x00\x00\x00\x01\x01n\x01a\x00\x00\x00\x00\x00"
		b    = "\x01b\x00\x00\x00\x01\x01m\x01b\x00\x00\x00\x00\x00"
		ab   = "\x02ab\x00\x00\x00\x01\x01n\x02ab\x00\x00\x00\x00\x00"
		ac   = "\x02ac\x00\x00\x00\x01\x01m\x02ac\x00\x00\x00\x00\x00"
	)
	if _, ok := Unpack("\x00" + root + "\x02" + a + b); !ok {
		t.Errorf("the form that is asked for is refused")
	}
	refused(t, "\x00"+root+"\x02"+b+a)
	refused(t, "\x00"+root+"\x02"+ab+ac)
	refused(t, "\x00"+root+"\x01"+"\x01a\x00\x00\x00\x00\x01\x01b"+ab[3:])
	refused(t, "\x00"+root+"\x01"+root+"\x02"+a+b)
	refused(t, "\x00"+root+"\x02"+a+"\x01b\x00\x00\x00\x00\x00")
	refused(t, "\x00"+"\x00\x00\x00\x01\x00\x01"+a)
	refused(t, "\x00"+a)
	refused(t, "\x02\x01b\x01a"+root+"\x00")
	refused(t, "\x01\x01n"+root+"\x01"+a)
}

// TestUnpackOfLimits: each just reached and just passed.
func TestUnpackOfLimits(t *testing.T) {
	with := func(entries, gone int) string {
		l := layer.Layer{}
		for i := range entries {
			l.Put(layer.Entry{Name: "e" + strconv.Itoa(i), Text: strconv.Itoa(i % 7)})
		}
		for i := range gone {
			l.TakeAway("g" + strconv.Itoa(i))
		}
		return Pack(l)
	}
	if got, ok := Unpack(with(layer.MaxEntries, layer.MaxGone)); !ok || len(got) != layer.MaxEntries+layer.MaxGone {
		t.Errorf("as much as may be: %v, %v", got, ok)
	}
	refused(t, with(0, 0))
	refused(t, with(layer.MaxEntries+1, 0))
	refused(t, with(0, layer.MaxGone+1))
	refused(t, Pack(said(nil, layer.Entry{Name: "n", Text: "x", Weight: layer.MaxWeight + 1})))
	refused(t, Pack(said(nil, layer.Entry{Name: "n", Text: strings.Repeat("x", 25)})))
	refused(t, Pack(said(nil, layer.Entry{Name: "n", Text: "\x7f"})))
	refused(t, Pack(said(nil, layer.Entry{Name: "N", Text: "x"})))
	refused(t, Pack(said([]string{"N"})))
}

func TestGuardTakesDamageAlone(t *testing.T) {
	if !guard(func() {}) {
		t.Errorf("a sound reading is told as damaged")
	}
	if guard(func() { panic(damage{}) }) {
		t.Errorf("damage is told as a sound reading")
	}
	defer func() {
		if caught := recover(); caught != "other" {
			t.Errorf("another panic came out as %v", caught)
		}
	}()
	guard(func() { panic("other") })
	t.Errorf("another panic was swallowed")
}

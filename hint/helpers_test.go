package hint_test

import (
	"strconv"
	"strings"
	"testing"

	"hint/hint"
)

// emptyRoot is a tree without entries, as it is packed.
const emptyRoot = "\x00\x00\x00\x00\x00\x00"

func want(t *testing.T, what string, got, wanted hint.Errno) {
	t.Helper()
	if got != wanted {
		t.Errorf("%s = %d, want %d", what, got, wanted)
	}
}

func upsert(t *testing.T, e *hint.Engine, name, text string) {
	t.Helper()
	want(t, "Upsert "+name, e.Upsert(name, text, 0, 0), hint.OK)
}

func remove(t *testing.T, e *hint.Engine, name string) {
	t.Helper()
	want(t, "Delete "+name, e.Delete(name), hint.OK)
}

// makeGone leaves the name gone in the buffer, whether or not it was there.
func makeGone(t *testing.T, e *hint.Engine, name string) {
	t.Helper()
	upsert(t, e, name, "x")
	remove(t, e, name)
}

func flush(t *testing.T, e *hint.Engine) {
	t.Helper()
	want(t, "Flush", e.Flush(), hint.OK)
}

func merge(t *testing.T, e *hint.Engine, segment int) {
	t.Helper()
	want(t, "Merge "+strconv.Itoa(segment), e.Merge(segment), hint.OK)
}

func dumps(t *testing.T, e *hint.Engine, wanted ...string) {
	t.Helper()
	if n := e.Segments(); n != len(wanted) {
		t.Errorf("Segments = %d, want %d", n, len(wanted))
	}
	for i, w := range wanted {
		if got, err := e.Dump(i); got != w || err != hint.OK {
			t.Errorf("Dump(%d) = %q, %d, want %q", i, got, err, w)
		}
	}
}

// one is the packed segment of one entry, without weight and tags.
func one(name, text string) string {
	return "\x00" + "\x00\x00\x00\x00\x00\x01" + sized(strings.ToLower(text)) + "\x00\x00\x00\x01" + sized(name) + sized(text) + "\x00\x00\x00\x00\x00"
}

// gone is the packed segment of gone names alone.
func gone(names ...string) string {
	packed := string([]byte{byte(len(names))})
	for _, name := range names {
		packed += sized(name)
	}
	return packed + emptyRoot
}

func sized(s string) string {
	return string([]byte{byte(len(s))}) + s
}

func numbered(prefix string, n int) string {
	digits := strconv.Itoa(1000 + n)
	return prefix + digits[1:]
}

// tell answers all that can be seen of an engine without changing it, and then
// what is seen of its buffer once that is flushed.
func tell(e *hint.Engine) string {
	var out strings.Builder
	for _, behind := range []string{"", "a", "a b", "text", "x"} {
		list, err := e.Suggest(behind, 20)
		out.WriteString(strings.Join(list, " ") + strconv.Itoa(int(err)))
	}
	for range 2 {
		out.WriteString(strconv.Itoa(e.Segments()))
		for i := range e.Segments() {
			packed, err := e.Dump(i)
			out.WriteString(strconv.Quote(packed) + strconv.Itoa(int(err)))
		}
		if e.Segments() == 6 {
			e.Merge(4)
		}
		out.WriteString(strconv.Itoa(int(e.Flush())))
	}
	return out.String()
}

package hint_test

import (
	"strings"
	"testing"

	"hint/hint"
)

// TestP2EnginesAreApart: what is done to one is not seen in another.
func TestP2EnginesAreApart(t *testing.T) {
	a, b := hint.New(), hint.New()
	upsert(t, a, "n", "of a")
	want(t, "Delete in b", b.Delete("n"), hint.ErrAbsent)
	want(t, "Flush of b", b.Flush(), hint.ErrAbsent)
	upsert(t, b, "n", "of b")
	flush(t, a)
	flush(t, b)
	dumps(t, a, one("n", "of a"))
	dumps(t, b, one("n", "of b"))
	remove(t, a, "n")
	want(t, "Delete again in a", a.Delete("n"), hint.ErrAbsent)
	remove(t, b, "n")
	flush(t, b)
	merge(t, b, 0)
	dumps(t, b)
	dumps(t, a, one("n", "of a"))
	for i := range 30 {
		upsert(t, b, numbered("m", i), "x")
	}
	want(t, "Upsert in full b", b.Upsert("more", "x", 0, 0), hint.ErrMany)
	upsert(t, a, "more", "x")
	dumps(t, hint.New())
}

func TestP3New(t *testing.T) {
	e := hint.New()
	dumps(t, e)
	want(t, "Flush", e.Flush(), hint.ErrAbsent)
	want(t, "Delete", e.Delete("a"), hint.ErrAbsent)
}

// TestP3Limits: each limit of an entry just reached.
func TestP3Limits(t *testing.T) {
	e := hint.New()
	want(t, "the least", e.Upsert("0", " ", 0, 0), hint.OK)
	want(t, "the most", e.Upsert("zzzzzzzz", strings.Repeat("~", 24), 1000000, 255), hint.OK)
	want(t, "a name too long", e.Upsert("zzzzzzzzz", "x", 0, 0), hint.ErrName)
	want(t, "a text too long", e.Upsert("a", strings.Repeat("~", 25), 0, 0), hint.ErrText)
	want(t, "a weight too great", e.Upsert("a", "x", 1000001, 0), hint.ErrArg)
	want(t, "a weight too small", e.Upsert("a", "x", -1, 0), hint.ErrArg)
	want(t, "tags too great", e.Upsert("a", "x", 0, 256), hint.ErrArg)
	want(t, "tags too small", e.Upsert("a", "x", 0, -1), hint.ErrArg)
	flush(t, e)
	long := strings.Repeat("~", 24)
	dumps(t, e, "\x00"+"\x00\x0f\x42\x40\x00\x02"+
		"\x01 \x00\x00\x00\x01\x010\x01 \x00\x00\x00\x00\x00"+
		"\x18"+long+"\x0f\x42\x40\x01\x08zzzzzzzz\x18"+long+"\x0f\x42\x40\xff\x00")
}

// TestP3InPlace: an entry of a name that is there takes its place.
func TestP3InPlace(t *testing.T) {
	e := hint.New()
	upsert(t, e, "a", "first")
	upsert(t, e, "a", "Second")
	flush(t, e)
	dumps(t, e, one("a", "Second"))
	upsert(t, e, "a", "third")
	flush(t, e)
	dumps(t, e, one("a", "Second"), one("a", "third"))
	remove(t, e, "a")
	want(t, "Delete again", e.Delete("a"), hint.ErrAbsent)
}

// TestP3ManyEntries: entries count by names, wherever they are said.
func TestP3ManyEntries(t *testing.T) {
	e := hint.New()
	for i := range 29 {
		upsert(t, e, numbered("n", i), "x")
		if i%6 == 5 {
			flush(t, e)
		}
	}
	upsert(t, e, "n000", "said twice")
	upsert(t, e, "last", "x")
	want(t, "a 31st", e.Upsert("more", "x", 0, 0), hint.ErrMany)
	upsert(t, e, "n001", "of a segment")
	upsert(t, e, "last", "of the buffer")
	flush(t, e)
	want(t, "a 31st", e.Upsert("more", "x", 0, 0), hint.ErrMany)
	remove(t, e, "n002")
	upsert(t, e, "more", "x")
	want(t, "a 31st under the name that left", e.Upsert("n002", "x", 0, 0), hint.ErrMany)
	remove(t, e, "more")
	upsert(t, e, "n002", "x")
	want(t, "a 31st", e.Upsert("more", "x", 0, 0), hint.ErrMany)
}

// TestP3Delete: from the buffer, from a segment, behind a newer saying.
func TestP3Delete(t *testing.T) {
	e := hint.New()
	makeGone(t, e, "a")
	want(t, "Delete of what is gone", e.Delete("a"), hint.ErrAbsent)
	upsert(t, e, "a", "x")
	upsert(t, e, "b", "x")
	flush(t, e)
	remove(t, e, "a")
	want(t, "Delete of what is gone", e.Delete("a"), hint.ErrAbsent)
	flush(t, e)
	want(t, "Delete of what a segment says is gone", e.Delete("a"), hint.ErrAbsent)
	upsert(t, e, "a", "again")
	flush(t, e)
	remove(t, e, "a")
	remove(t, e, "b")
	want(t, "Delete", e.Delete("b"), hint.ErrAbsent)
}

// TestP3ManyGone: the buffer has at most 100 gone names, each counted once.
func TestP3ManyGone(t *testing.T) {
	e := hint.New()
	for i := range 99 {
		makeGone(t, e, numbered("n", i))
	}
	for range 5 {
		makeGone(t, e, "n000")
	}
	upsert(t, e, "last", "x")
	upsert(t, e, "more", "y")
	remove(t, e, "last")
	want(t, "a 101st gone name", e.Delete("more"), hint.ErrMany)
	upsert(t, e, "n000", "back")
	remove(t, e, "more")
	want(t, "a 101st gone name", e.Delete("n000"), hint.ErrMany)
	flush(t, e)
	dumps(t, e, one("n000", "back"))
	remove(t, e, "n000")
}

package hint_test

import (
	"testing"

	"hint/hint"
)

// TestExamples: the second and the third example of the document.
func TestExamples(t *testing.T) {
	e := hint.New()
	e.Upsert("a", "New York", 50, 1)
	e.Upsert("b", "Newark", 70, 3)
	e.Upsert("c", "York", 60, 1)
	flush(t, e)
	first := "\x00" + "\x00\x00\x00\x46\x00\x02" +
		"\x03new\x00\x00\x46\x00\x02" +
		"\x05 york\x00\x00\x32\x01\x01a\x08New York\x00\x00\x32\x01\x00" +
		"\x03ark\x00\x00\x46\x01\x01b\x06Newark\x00\x00\x46\x03\x00" +
		"\x04york\x00\x00\x3c\x01\x01c\x04York\x00\x00\x3c\x01\x00"
	dumps(t, e, first)
	remove(t, e, "b")
	flush(t, e)
	dumps(t, e, first, "\x01\x01b\x00\x00\x00\x00\x00\x00")
	merge(t, e, 0)
	dumps(t, e, "\x00"+"\x00\x00\x00\x3c\x00\x02"+
		"\x08new york\x00\x00\x32\x01\x01a\x08New York\x00\x00\x32\x01\x00"+
		"\x04york\x00\x00\x3c\x01\x01c\x04York\x00\x00\x3c\x01\x00")
}

// TestP4Flush: the buffer says nothing afterwards, and gone names are left out
// of the oldest segment alone.
func TestP4Flush(t *testing.T) {
	e := hint.New()
	makeGone(t, e, "z")
	flush(t, e)
	dumps(t, e)
	want(t, "Flush again", e.Flush(), hint.ErrAbsent)
	upsert(t, e, "a", "x")
	makeGone(t, e, "z")
	flush(t, e)
	dumps(t, e, one("a", "x"))
	want(t, "Flush again", e.Flush(), hint.ErrAbsent)
	makeGone(t, e, "z")
	flush(t, e)
	dumps(t, e, one("a", "x"), gone("z"))
	upsert(t, e, "a", "x")
	flush(t, e)
	dumps(t, e, one("a", "x"), gone("z"), one("a", "x"))
}

func TestP4ManySegments(t *testing.T) {
	e := hint.New()
	for i := range 6 {
		upsert(t, e, numbered("n", i), "x")
		flush(t, e)
	}
	upsert(t, e, "more", "x")
	want(t, "a seventh segment", e.Flush(), hint.ErrMany)
	if n := e.Segments(); n != 6 {
		t.Errorf("Segments = %d after a refused Flush", n)
	}
	merge(t, e, 2)
	flush(t, e)
	if got, _ := e.Dump(5); got != one("more", "x") {
		t.Errorf("the buffer that a refused Flush left: %q", got)
	}
	makeGone(t, e, "more")
	want(t, "a seventh segment of gone names", e.Flush(), hint.ErrMany)
}

// TestP4MergeNumbers: just the numbers with a segment behind them.
func TestP4MergeNumbers(t *testing.T) {
	e := hint.New()
	want(t, "Merge without segments", e.Merge(0), hint.ErrSegment)
	want(t, "Merge without segments", e.Merge(-1), hint.ErrSegment)
	for i := range 3 {
		upsert(t, e, numbered("n", i), numbered("x", i))
		flush(t, e)
		want(t, "Merge of the newest", e.Merge(i), hint.ErrSegment)
	}
	want(t, "Merge ahead of the oldest", e.Merge(-1), hint.ErrSegment)
	merge(t, e, 1)
	if got, _ := e.Dump(0); e.Segments() != 2 || got != one("n000", "x000") {
		t.Errorf("Merge(1) left %d segments, the oldest %q", e.Segments(), got)
	}
	merge(t, e, 0)
	want(t, "Merge of the only one", e.Merge(0), hint.ErrSegment)
}

// TestP4MergeTakesTheNewer: of each pair of sayings on one name.
func TestP4MergeTakesTheNewer(t *testing.T) {
	for _, c := range []struct {
		what         string
		older, newer func(*hint.Engine)
		wanted       string
	}{
		{"entry, entry", put("a", "old"), put("a", "new"), one("a", "new")},
		{"entry, gone", put("a", "old"), deleted("a"), gone("a")},
		{"gone, entry", deleted("a"), put("a", "new"), one("a", "new")},
		{"gone, gone", deleted("a"), deleted("a"), gone("a")},
		{"gone, other gone", deleted("b"), deleted("a"), gone("a", "b")},
		{"entry, other gone", put("a", "old"), deleted("b"), "\x01\x01b" + one("a", "old")[1:]},
	} {
		t.Run(c.what, func(t *testing.T) {
			e := hint.New()
			upsert(t, e, "base", "base")
			flush(t, e)
			c.older(e)
			flush(t, e)
			c.newer(e)
			flush(t, e)
			upsert(t, e, "top", "top")
			flush(t, e)
			merge(t, e, 1)
			dumps(t, e, one("base", "base"), c.wanted, one("top", "top"))
		})
	}
}

func put(name, text string) func(*hint.Engine) {
	return func(e *hint.Engine) { e.Upsert(name, text, 0, 0) }
}

func deleted(name string) func(*hint.Engine) {
	return func(e *hint.Engine) {
		e.Upsert(name, "x", 0, 0)
		e.Delete(name)
	}
}

// TestP4MergeOfTheOldest: gone names are left out, and a segment that then
// says nothing is there no more; the one behind it stays as it was.
func TestP4MergeOfTheOldest(t *testing.T) {
	e := hint.New()
	upsert(t, e, "a", "x")
	flush(t, e)
	remove(t, e, "a")
	flush(t, e)
	makeGone(t, e, "b")
	flush(t, e)
	makeGone(t, e, "c")
	flush(t, e)
	merge(t, e, 0)
	dumps(t, e, gone("b"), gone("c"))
	makeGone(t, e, "d")
	flush(t, e)
	dumps(t, e, gone("b"), gone("c"), gone("d"))
	merge(t, e, 1)
	dumps(t, e, gone("b"), gone("c", "d"))
	merge(t, e, 0)
	dumps(t, e)
}

// TestP4MergeOfManyGone: 100 gone names may be in one, 101 only where they are
// left out.
func TestP4MergeOfManyGone(t *testing.T) {
	e := hint.New()
	upsert(t, e, "a", "x")
	flush(t, e)
	for i := range 60 {
		makeGone(t, e, numbered("n", i))
	}
	flush(t, e)
	for i := range 41 {
		makeGone(t, e, numbered("n", 59+i))
	}
	flush(t, e)
	merge(t, e, 1)
	hundred := make([]string, 100)
	for i := range hundred {
		hundred[i] = numbered("n", i)
	}
	dumps(t, e, one("a", "x"), gone(hundred...))
	makeGone(t, e, "z")
	flush(t, e)
	want(t, "Merge to 101 gone names", e.Merge(1), hint.ErrMany)
	dumps(t, e, one("a", "x"), gone(hundred...), gone("z"))
	want(t, "Merge of the newest", e.Merge(2), hint.ErrSegment)
	merge(t, e, 0)
	dumps(t, e, one("a", "x"), gone("z"))
}

// TestP4MergeOfManyGoneIntoTheOldest: their number is no hindrance there.
func TestP4MergeOfManyGoneIntoTheOldest(t *testing.T) {
	e := hint.New()
	upsert(t, e, "a", "x")
	flush(t, e)
	remove(t, e, "a")
	flush(t, e)
	for i := range 100 {
		makeGone(t, e, numbered("n", i))
	}
	flush(t, e)
	makeGone(t, e, "z")
	flush(t, e)
	merge(t, e, 0)
	merge(t, e, 0)
	dumps(t, e)
}

// TestP4ChangesNothingThere: what Upsert and Delete answer is the same behind
// Flush and Merge.
func TestP4ChangesNothingThere(t *testing.T) {
	e := hint.New()
	for i := range 30 {
		upsert(t, e, numbered("n", i), "x")
	}
	check := func() {
		t.Helper()
		want(t, "a 31st", e.Upsert("more", "x", 0, 0), hint.ErrMany)
		want(t, "Delete of none", e.Delete("more"), hint.ErrAbsent)
	}
	check()
	flush(t, e)
	check()
	remove(t, e, "n000")
	upsert(t, e, "n030", "x")
	flush(t, e)
	check()
	want(t, "Delete of what was deleted", e.Delete("n000"), hint.ErrAbsent)
	merge(t, e, 0)
	check()
	want(t, "Delete of what was deleted", e.Delete("n000"), hint.ErrAbsent)
	for i := range 30 {
		remove(t, e, numbered("n", 1+i))
	}
}

// TestP5DumpStays: a dump that was told is not changed by what follows, and
// Dump itself changes nothing.
func TestP5DumpStays(t *testing.T) {
	e := hint.New()
	upsert(t, e, "a", "x")
	flush(t, e)
	upsert(t, e, "a", "Y")
	upsert(t, e, "b", "z")
	told, _ := e.Dump(0)
	dumps(t, e, one("a", "x"))
	dumps(t, e, one("a", "x"))
	flush(t, e)
	merge(t, e, 0)
	if told != one("a", "x") {
		t.Errorf("what Dump had told became %q", told)
	}
	dumps(t, e, "\x00"+"\x00\x00\x00\x00\x00\x02"+
		"\x01y\x00\x00\x00\x01\x01a\x01Y\x00\x00\x00\x00\x00"+
		"\x01z\x00\x00\x00\x01\x01b\x01z\x00\x00\x00\x00\x00")
	for _, n := range []int{-1 << 63, -1, 1, 2, 1<<63 - 1} {
		if packed, err := e.Dump(n); packed != "" || err != hint.ErrSegment {
			t.Errorf("Dump(%d) = %q, %d", n, packed, err)
		}
	}
}

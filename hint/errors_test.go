package hint_test

import (
	"math"
	"strings"
	"testing"

	"hint/hint"
)

var wrongStrings = []string{"", " ", "A", "a b", "a\x00", "\x1f", "\x7f", "\x80", "\xff\xfe", "\u00e9", "\u212a", "abcdefghi", strings.Repeat("x", 25), strings.Repeat("a", 1<<22), strings.Repeat("\x00", 1<<16)}

var wrongNumbers = []int{math.MinInt, math.MinInt + 1, -1 << 32, -256, -2, -1, 6, 7, 256, 1000001, 1 << 24, 1 << 32, math.MaxInt - 1, math.MaxInt}

// full makes an engine with six segments, entries and gone names in them, and
// both in the buffer, and with as many words as may be.
func full(t *testing.T) *hint.Engine {
	t.Helper()
	e := hint.New()
	for i := range 6 {
		upsert(t, e, numbered("n", i), "Text "+numbered("", i))
		if i > 0 {
			remove(t, e, numbered("n", i-1))
		}
		flush(t, e)
	}
	upsert(t, e, "a", "buffered")
	makeGone(t, e, "b")
	observe(t, e, "a b c", "a b")
	for i := range 57 {
		observe(t, e, numbered("n", i))
	}
	return e
}

func fresh(*testing.T) *hint.Engine { return hint.New() }

// TestNumbersOfErrors: as the document's list has them.
func TestNumbersOfErrors(t *testing.T) {
	for number, err := range []hint.Errno{hint.OK, hint.ErrName, hint.ErrText, hint.ErrArg, hint.ErrMany, hint.ErrAbsent, hint.ErrSegment, hint.ErrPacked} {
		if int(err) != number {
			t.Errorf("the error number %d is %d", number, err)
		}
	}
}

// TestP1NothingPanics: all numbers and strings, on an empty engine and on a
// full one.
func TestP1NothingPanics(t *testing.T) {
	for _, begin := range []func(*testing.T) *hint.Engine{fresh, full} {
		e := begin(t)
		for _, s := range wrongStrings {
			for _, n := range wrongNumbers {
				e.Upsert(s, s, n, n)
				e.Upsert("a", s, n, n)
				e.Upsert("a", "x", n, n)
				e.Suggest("a b", n)
				noneBesideAnError(t, e, s, n)
				e.Merge(n)
			}
			e.Delete(s)
			e.Load(s)
			e.Observe(s)
			e.Flush()
		}
	}
}

func noneBesideAnError(t *testing.T, e *hint.Engine, s string, n int) {
	t.Helper()
	if packed, err := e.Dump(n); err != hint.OK && packed != "" {
		t.Errorf("Dump(%d): %q beside %d", n, packed, err)
	}
	if list, err := e.Complete(n, s, n, n); err != hint.OK && list != nil {
		t.Errorf("Complete: %q beside %d", list, err)
	}
	if list, err := e.Suggest(s, n); err != hint.OK && list != nil {
		t.Errorf("Suggest: %q beside %d", list, err)
	}
}

// TestP1ErrorsChangeNothing: an engine that refused many calls is afterwards
// like one that was never asked.
func TestP1ErrorsChangeNothing(t *testing.T) {
	for _, begin := range []func(*testing.T) *hint.Engine{fresh, full} {
		asked := begin(t)
		for _, s := range wrongStrings {
			want(t, "Upsert of no name", asked.Upsert(s, "x", 0, 0), hint.ErrName)
			want(t, "Delete of no name", asked.Delete(s), hint.ErrName)
		}
		for _, s := range []string{"", "\x1f", "\x7f", "x\u00e9", strings.Repeat("x", 25), strings.Repeat("x", 1<<22)} {
			want(t, "Upsert of no text", asked.Upsert("a", s, 0, 0), hint.ErrText)
			want(t, "Observe of no text", asked.Observe(s), hint.ErrText)
		}
		suggestsNone(t, asked, "x\u00e9", 20, hint.ErrText)
		suggestsNone(t, asked, "x", 21, hint.ErrArg)
		for _, n := range []int{math.MinInt, -1, 1000001, math.MaxInt} {
			want(t, "Upsert of a wrong weight", asked.Upsert("a", "x", n, 0), hint.ErrArg)
			want(t, "Upsert of wrong tags", asked.Upsert("a", "x", 0, n), hint.ErrArg)
		}
		want(t, "Delete of none", asked.Delete("none"), hint.ErrAbsent)
		for _, n := range wrongNumbers {
			want(t, "Merge of none", asked.Merge(n), hint.ErrSegment)
			if packed, err := asked.Dump(n); packed != "" || err != hint.ErrSegment {
				t.Errorf("Dump(%d) = %q, %d", n, packed, err)
			}
		}
		want(t, "Merge of the newest", asked.Merge(asked.Segments()-1), hint.ErrSegment)
		for _, s := range wrongStrings {
			want(t, "Load of no segment", asked.Load(s), hint.ErrPacked)
		}
		if got, wanted := tell(asked), tell(begin(t)); got != wanted {
			t.Errorf("after errors: %s, want %s", got, wanted)
		}
	}
}

// TestP1TheFirstErrorIsTold: several apply at once.
func TestP1TheFirstErrorIsTold(t *testing.T) {
	e := hint.New()
	for i := range 30 {
		upsert(t, e, numbered("n", i), "x")
	}
	want(t, "all wrong", e.Upsert("", "", -1, 256), hint.ErrName)
	want(t, "name and number", e.Upsert("A", "x", -1, 0), hint.ErrName)
	want(t, "name and too many", e.Upsert("A", "x", 0, 0), hint.ErrName)
	want(t, "text and numbers", e.Upsert("new", "", -1, 256), hint.ErrText)
	want(t, "text and too many", e.Upsert("new", "", 0, 0), hint.ErrText)
	want(t, "weight and too many", e.Upsert("new", "x", -1, 0), hint.ErrArg)
	want(t, "tags and too many", e.Upsert("new", "x", 0, 256), hint.ErrArg)
	want(t, "too many", e.Upsert("new", "x", 0, 0), hint.ErrMany)

	g := hint.New()
	for i := range 100 {
		makeGone(t, g, numbered("n", i))
	}
	want(t, "no name and too many gone", g.Delete("A"), hint.ErrName)
	want(t, "absent and too many gone", g.Delete("none"), hint.ErrAbsent)
	want(t, "gone and too many gone", g.Delete("n000"), hint.ErrAbsent)

	s := hint.New()
	for range 6 {
		upsert(t, s, "a", "x")
		flush(t, s)
	}
	want(t, "Flush of nothing with six segments", s.Flush(), hint.ErrAbsent)
}

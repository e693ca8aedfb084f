package hint_test

import (
	"math"
	"runtime"
	"slices"
	"strconv"
	"strings"
	"testing"
	"time"

	"hint/hint"
)

func completes(t *testing.T, e *hint.Engine, mode int, query string, tags, most int, wanted ...string) {
	t.Helper()
	if got, err := e.Complete(mode, query, tags, most); !slices.Equal(got, wanted) || err != hint.OK {
		t.Errorf("Complete(%d, %q, %d, %d) = %q, %d, want %q", mode, query, tags, most, got, err, wanted)
	}
}

// refuses wants a nil list beside the error.
func refuses(t *testing.T, e *hint.Engine, mode int, query string, tags, most int, wanted hint.Errno) {
	t.Helper()
	if got, err := e.Complete(mode, query, tags, most); got != nil || err != wanted {
		t.Errorf("Complete(%d, %.40q, %d, %d) = %q, %d, want %d", mode, query, tags, most, got, err, wanted)
	}
}

// TestExamplesOfComplete: as the document has them.
func TestExamplesOfComplete(t *testing.T) {
	rows := []row{{"a", "New York", 50, 1}, {"b", "Newark", 70, 3}, {"c", "York", 60, 1}}
	inEveryWay(t, rows, func(t *testing.T, e *hint.Engine) {
		completes(t, e, 0, "new", 0, 5, "b 70 Newark", "a 50 New York")
		completes(t, e, 1, "YORK", 0, 5, "c 60 York", "a 50 New York")
		completes(t, e, 0, "new", 2, 5, "b 70 Newark")
		completes(t, e, 2, "nwe", 0, 5, "b 70 Newark", "a 50 New York")
		completes(t, e, 2, "yrok", 0, 5)
		completes(t, e, 3, "yrok", 0, 5, "c 60 York")
	})
}

func TestP6Nothing(t *testing.T) {
	e := hint.New()
	for mode := range 4 {
		completes(t, e, mode, "", 0, 20)
		completes(t, e, mode, "a", 255, 1)
	}
	upsert(t, e, "a", "x")
	remove(t, e, "a")
	completes(t, e, 0, "", 0, 20)
	want(t, "Flush of a gone name alone", e.Flush(), hint.OK)
	completes(t, e, 0, "", 0, 20)
}

// TestP6Lines: the text is told as it was handed in, the weight without
// anything ahead of it.
func TestP6Lines(t *testing.T) {
	long := strings.Repeat("Z~", 12)
	rows := []row{{"0", " A  b ", 0, 0}, {"zzzzzzzz", long, 1000000, 255}, {"m", "%s", 90, 0}, {"n", "7 7", 7, 7}}
	inEveryWay(t, rows, func(t *testing.T, e *hint.Engine) {
		completes(t, e, 0, "", 0, 20, "zzzzzzzz 1000000 "+long, "m 90 %s", "n 7 7 7", "0 0  A  b ")
		completes(t, e, 0, " a  B ", 0, 20, "0 0  A  b ")
		completes(t, e, 0, long, 0, 20, "zzzzzzzz 1000000 "+long)
		completes(t, e, 0, strings.ToLower(long), 0, 20, "zzzzzzzz 1000000 "+long)
		completes(t, e, 0, "%S", 0, 20, "m 90 %s")
	})
}

// TestP6Order: weights, then folded texts, then names.
func TestP6Order(t *testing.T) {
	rows := []row{
		{"e", "ab", 5, 0}, {"d", "AB", 5, 0}, {"da", "aB", 5, 0}, {"z", "A", 5, 0},
		{"a", "Ab c", 5, 0}, {"b", "ab-", 5, 0}, {"c", "b", 6, 0}, {"y", "~", 100, 0},
		{"x", "a", 99, 0}, {"f", "[", 5, 0}, {"g", "C", 5, 0}, {"h", "_", 5, 0}, {"i", " ", 5, 0},
	}
	inEveryWay(t, rows, func(t *testing.T, e *hint.Engine) {
		completes(t, e, 0, "", 0, 20,
			"y 100 ~", "x 99 a", "c 6 b", "i 5  ", "f 5 [", "h 5 _", "z 5 A", "d 5 AB", "da 5 aB", "e 5 ab", "a 5 Ab c", "b 5 ab-", "g 5 C")
		completes(t, e, 0, "AB", 0, 20, "d 5 AB", "da 5 aB", "e 5 ab", "a 5 Ab c", "b 5 ab-")
	})
}

func TestP6Tags(t *testing.T) {
	rows := []row{{"a", "x", 9, 0}, {"b", "x", 8, 1}, {"c", "x", 7, 3}, {"d", "x", 6, 128}, {"e", "x", 5, 255}, {"f", "y", 4, 255}}
	inEveryWay(t, rows, func(t *testing.T, e *hint.Engine) {
		completes(t, e, 0, "x", 0, 20, "a 9 x", "b 8 x", "c 7 x", "d 6 x", "e 5 x")
		completes(t, e, 0, "x", 1, 20, "b 8 x", "c 7 x", "e 5 x")
		completes(t, e, 0, "x", 2, 20, "c 7 x", "e 5 x")
		completes(t, e, 0, "x", 3, 20, "c 7 x", "e 5 x")
		completes(t, e, 0, "x", 4, 20, "e 5 x")
		completes(t, e, 0, "x", 128, 20, "d 6 x", "e 5 x")
		completes(t, e, 0, "x", 129, 20, "e 5 x")
		completes(t, e, 0, "x", 255, 20, "e 5 x")
		completes(t, e, 0, "", 255, 20, "e 5 x", "f 4 y")
		completes(t, e, 0, "", 255, 1, "e 5 x")
	})
}

// TestP6Most: fewer than fit, as many, and more.
func TestP6Most(t *testing.T) {
	var rows []row
	var lines []string
	for i := range 30 {
		number := (i * 7) % 30
		rows = append(rows, row{numbered("n", number), "t " + numbered("", number), 1000 - number, 0})
		lines = append(lines, numbered("n", i)+" "+strconv.Itoa(1000-i)+" t "+numbered("", i))
	}
	inEveryWay(t, rows, func(t *testing.T, e *hint.Engine) {
		for most := 1; most <= 20; most++ {
			completes(t, e, 0, "t", 0, most, lines[:most]...)
			completes(t, e, 1, "0", 0, most, lines[:most]...)
		}
		few, err := e.Complete(1, "02", 0, 20)
		if len(few) != 10 || err != hint.OK {
			t.Errorf("ten fit: %q, %d", few, err)
		}
		completes(t, e, 1, "02", 0, 10, few...)
		completes(t, e, 1, "02", 0, 9, few[:9]...)
		completes(t, e, 1, "02", 0, 11, few...)
	})
}

func TestP6WholeTexts(t *testing.T) {
	rows := []row{{"a", "New York", 3, 0}, {"b", "new", 2, 0}, {"c", "ne", 1, 0}, {"d", "-new", 0, 0}}
	inEveryWay(t, rows, func(t *testing.T, e *hint.Engine) {
		completes(t, e, 0, "", 0, 5, "a 3 New York", "b 2 new", "c 1 ne", "d 0 -new")
		completes(t, e, 0, "n", 0, 5, "a 3 New York", "b 2 new", "c 1 ne")
		completes(t, e, 0, "nEw", 0, 5, "a 3 New York", "b 2 new")
		completes(t, e, 0, "new ", 0, 5, "a 3 New York")
		completes(t, e, 0, "NEW YORK", 0, 5, "a 3 New York")
		completes(t, e, 0, "new york ", 0, 5)
		completes(t, e, 0, "york", 0, 5)
		completes(t, e, 0, "ew", 0, 5)
		completes(t, e, 0, "-", 0, 5, "d 0 -new")
		completes(t, e, 0, "nex", 0, 5)
	})
}

// TestP6Words: a text without words fits no query of this mode.
func TestP6Words(t *testing.T) {
	rows := []row{{"a", "New York", 9, 0}, {"b", "x-Yo yo", 8, 0}, {"c", "--", 7, 0}, {"d", "4you", 6, 0}, {"e", "~york9", 5, 0}}
	inEveryWay(t, rows, func(t *testing.T, e *hint.Engine) {
		completes(t, e, 1, "", 0, 5, "a 9 New York", "b 8 x-Yo yo", "d 6 4you", "e 5 ~york9")
		completes(t, e, 1, "yo", 0, 5, "a 9 New York", "b 8 x-Yo yo", "e 5 ~york9")
		completes(t, e, 1, "YORK", 0, 5, "a 9 New York", "e 5 ~york9")
		completes(t, e, 1, "york9", 0, 5, "e 5 ~york9")
		completes(t, e, 1, "yo Y", 0, 5, "b 8 x-Yo yo")
		completes(t, e, 1, "x-y", 0, 5, "b 8 x-Yo yo")
		completes(t, e, 1, "4", 0, 5, "d 6 4you")
		completes(t, e, 1, "you", 0, 5)
		completes(t, e, 1, "ork", 0, 5)
		completes(t, e, 1, "9", 0, 5)
		completes(t, e, 1, "-", 0, 5)
		completes(t, e, 1, "--", 0, 5)
		completes(t, e, 1, " york", 0, 5)
		completes(t, e, 1, "new york", 0, 5, "a 9 New York")
		completes(t, e, 1, "york new", 0, 5)
	})
}

// TestP6Changes: at the beginning, in the middle and at the end, and against
// texts that are shorter than the query.
func TestP6Changes(t *testing.T) {
	rows := []row{{"a", "Abcdef", 9, 0}, {"b", "xy", 8, 0}}
	const a, b = "a 9 Abcdef", "b 8 xy"
	for query, wanted := range map[string][2][]string{
		"":          {{a, b}, {a, b}},
		"q":         {{a, b}, {a, b}},
		"qq":        {nil, {a, b}},
		"qqq":       {nil, nil},
		"abcd":      {{a}, {a}},
		"bcd":       {{a}, {a}},
		"acd":       {{a}, {a}},
		"abd":       {{a}, {a}},
		"QABCD":     {{a}, {a}},
		"abqcd":     {{a}, {a}},
		"abcdq":     {{a}, {a}},
		"qbcd":      {{a}, {a}},
		"aqcd":      {{a}, {a}},
		"abcq":      {{a}, {a}},
		"abcdefq":   {{a}, {a}},
		"abcdefqq":  {nil, {a}},
		"abcdefqqq": {nil, nil},
		"cdef":      {nil, {a}},
		"def":       {nil, nil},
		"qqabcd":    {nil, {a}},
		"qqqabcd":   {nil, nil},
		"qabcdeq":   {nil, {a}},
		"qabcdefq":  {nil, {a}},
		"bacdef":    {nil, {a}},
		"aqcqef":    {nil, {a}},
		"aqcqeq":    {nil, nil},
		"xyz":       {{b}, {b}},
		"xyzz":      {nil, {b}},
		"xyzzz":     {nil, nil},
		"y":         {{a, b}, {a, b}},
		"yx":        {{b}, {a, b}},
		"xqq":       {nil, {b}},
		"xqqq":      {nil, nil},
	} {
		inEveryWay(t, rows, func(t *testing.T, e *hint.Engine) {
			completes(t, e, 2, query, 0, 5, wanted[0]...)
			completes(t, e, 3, query, 0, 5, wanted[1]...)
		})
	}
}

// TestP6LongQueries: as long as may be, and one byte longer.
func TestP6LongQueries(t *testing.T) {
	text := "a" + strings.Repeat("b", 22) + "c"
	rows := []row{{"a", text, 1, 0}, {"b", text[:23], 0, 0}, {"c", "a", 9, 0}}
	inEveryWay(t, rows, func(t *testing.T, e *hint.Engine) {
		completes(t, e, 0, text, 0, 5, "a 1 "+text)
		completes(t, e, 1, text, 0, 5, "a 1 "+text)
		completes(t, e, 2, text, 0, 5, "a 1 "+text, "b 0 "+text[:23])
		completes(t, e, 3, "x"+text[:23], 0, 5, "a 1 "+text, "b 0 "+text[:23])
		completes(t, e, 3, strings.Repeat("x", 24), 0, 5)
		for mode := range 4 {
			refuses(t, e, mode, text+"c", 0, 5, hint.ErrText)
			refuses(t, e, mode, strings.Repeat("a", 1<<23), 0, 5, hint.ErrText)
		}
	})
}

// TestP6Errors: each bound just kept and just passed, and all of the wrong
// strings and numbers.
func TestP6Errors(t *testing.T) {
	for _, begin := range []func(*testing.T) *hint.Engine{fresh, full} {
		e := begin(t)
		completes(t, e, 0, "zz", 0, 1)
		completes(t, e, 3, "zzzzz", 255, 20)
		for _, n := range []int{math.MinInt, -1 << 32, -1, 4, 5, 1 << 32, 1<<32 + 1, math.MaxInt} {
			refuses(t, e, n, "a", 0, 5, hint.ErrArg)
		}
		for _, n := range []int{math.MinInt, -1 << 32, -256, -1, 256, 257, 1 << 32, math.MaxInt} {
			refuses(t, e, 0, "a", n, 5, hint.ErrArg)
		}
		for _, n := range []int{math.MinInt, -1 << 32, -1, 0, 21, 22, 1<<32 + 1, 1 << 62, math.MaxInt} {
			refuses(t, e, 0, "a", 0, n, hint.ErrArg)
		}
		for b := range 256 {
			query := "a" + string([]byte{byte(b)})
			if b < 32 || b > 126 {
				refuses(t, e, 0, query, 0, 5, hint.ErrText)
			} else if _, err := e.Complete(0, query, 0, 5); err != hint.OK {
				t.Errorf("Complete of %q: %d", query, err)
			}
		}
		for _, s := range []string{"\n", "\x1f", "\x7f", "\u00e9", "\u212a", "\xff\xfe", strings.Repeat("x", 25), strings.Repeat("\x00", 1<<16)} {
			for mode := range 4 {
				refuses(t, e, mode, s, 0, 20, hint.ErrText)
			}
			refuses(t, e, 4, s, 0, 5, hint.ErrArg)
			refuses(t, e, -1, s, 256, 0, hint.ErrArg)
			refuses(t, e, 0, s, -1, 5, hint.ErrArg)
			refuses(t, e, 0, s, 0, 0, hint.ErrArg)
			refuses(t, e, 0, s, 0, 21, hint.ErrArg)
		}
		if got, wanted := tell(e), tell(begin(t)); got != wanted {
			t.Errorf("after Complete: %s, want %s", got, wanted)
		}
	}
}

// TestP6WhatIsThere: what the newest says counts, be it gone, or an entry that
// the query does not fit or that lacks the tags.
func TestP6WhatIsThere(t *testing.T) {
	e := hint.New()
	row{"a", "old", 9, 1}.put(t, e)
	row{"b", "older", 8, 1}.put(t, e)
	flush(t, e)
	row{"a", "new", 1, 0}.put(t, e)
	for range 2 {
		completes(t, e, 0, "old", 0, 5, "b 8 older")
		completes(t, e, 0, "new", 0, 5, "a 1 new")
		completes(t, e, 0, "", 1, 5, "b 8 older")
		completes(t, e, 0, "", 0, 5, "b 8 older", "a 1 new")
		e.Flush()
	}
	remove(t, e, "b")
	for range 2 {
		completes(t, e, 0, "", 0, 5, "a 1 new")
		e.Flush()
	}
	remove(t, e, "a")
	for range 2 {
		completes(t, e, 0, "", 0, 5)
		e.Flush()
	}
	row{"b", "Old", 7, 2}.put(t, e)
	for range 2 {
		completes(t, e, 0, "o", 0, 5, "b 7 Old")
		e.Flush()
	}
	for e.Segments() > 1 {
		merge(t, e, e.Segments()-2)
		completes(t, e, 0, "", 0, 5, "b 7 Old")
	}
}

// TestP6BehindLoad: a loaded segment is the newest, with its gone names; those
// of the oldest one hide nothing.
func TestP6BehindLoad(t *testing.T) {
	e := hint.New()
	load(t, e, gone("a", "b"))
	completes(t, e, 0, "", 0, 5)
	row{"a", "x", 1, 0}.put(t, e)
	row{"b", "xy", 2, 0}.put(t, e)
	row{"c", "xyz", 3, 0}.put(t, e)
	flush(t, e)
	completes(t, e, 0, "x", 0, 5, "c 3 xyz", "b 2 xy", "a 1 x")
	load(t, e, goneAnd(one("b", "New"), "c"))
	completes(t, e, 0, "", 0, 5, "a 1 x", "b 0 New")
	merge(t, e, 1)
	completes(t, e, 0, "", 0, 5, "a 1 x", "b 0 New")
	merge(t, e, 0)
	completes(t, e, 0, "", 0, 5, "a 1 x", "b 0 New")
	refused := e.Load("\x00" + emptyRoot)
	want(t, "Load of nothing", refused, hint.ErrPacked)
	completes(t, e, 0, "", 0, 5, "a 1 x", "b 0 New")
}

// TestP2CompletedListsAreTheCallers: they are written full, and nothing else
// changes.
func TestP2CompletedListsAreTheCallers(t *testing.T) {
	rows := []row{{"a", "x", 1, 0}, {"b", "x", 2, 0}, {"c", "x", 3, 0}}
	inEveryWay(t, rows, func(t *testing.T, e *hint.Engine) {
		first, _ := e.Complete(0, "x", 0, 2)
		second, _ := e.Complete(0, "x", 0, 2)
		third := second[:cap(second)]
		for i := range third {
			third[i] = "mine"
		}
		if !slices.Equal(first, []string{"c 3 x", "b 2 x"}) {
			t.Errorf("another list changed: %q", first)
		}
		completes(t, e, 0, "x", 0, 3, "c 3 x", "b 2 x", "a 1 x")
	})
}

func TestP2CompleteOfEnginesApart(t *testing.T) {
	a, b := hint.New(), hint.New()
	upsert(t, a, "n", "of a")
	completes(t, b, 0, "", 0, 5)
	upsert(t, b, "n", "of b")
	flush(t, a)
	completes(t, a, 0, "", 0, 5, "n 0 of a")
	completes(t, b, 0, "", 0, 5, "n 0 of b")
}

// TestNoGoroutineIsLeft: however the call ends. One that has closed its
// channel may need a moment to be gone.
func TestNoGoroutineIsLeft(t *testing.T) {
	engines := []*hint.Engine{hint.New(), full(t)}
	before := runtime.NumGoroutine()
	for _, e := range engines {
		for range 100 {
			for mode := range 4 {
				e.Complete(mode, "t", 0, 1)
				e.Complete(mode, "", 255, 20)
				e.Complete(mode, "\n", 0, 1)
				e.Complete(mode, "", 0, 0)
			}
		}
	}
	for wait := 0; runtime.NumGoroutine() > before; wait++ {
		if wait == 200 {
			t.Fatalf("goroutines: %d ahead, %d behind", before, runtime.NumGoroutine())
		}
		time.Sleep(10 * time.Millisecond)
	}
}

package hint_test

import (
	"strings"
	"testing"

	"hint/hint"
)

type row struct {
	name, text   string
	weight, tags int
}

func (r row) put(t *testing.T, e *hint.Engine) {
	t.Helper()
	want(t, "Upsert "+r.name, e.Upsert(r.name, r.text, r.weight, r.tags), hint.OK)
}

// other is an entry of the same name that differs in all.
func (r row) other() row {
	return row{r.name, strings.Repeat("~", 1+len(r.text)%24), 1000000 - r.weight, 255 - r.tags}
}

func putAll(t *testing.T, e *hint.Engine, rows []row) {
	t.Helper()
	for _, r := range rows {
		r.put(t, e)
	}
}

// inEveryWay asks engines where the same entries are there, in different
// places and behind different histories.
func inEveryWay(t *testing.T, rows []row, ask func(*testing.T, *hint.Engine)) {
	for _, way := range []struct {
		what string
		make func(*testing.T, *hint.Engine, []row)
	}{
		{"in the buffer", putAll},
		{"in one segment", inOneSegment},
		{"in many segments", inManySegments},
		{"in merged segments", inMergedSegments},
		{"in loaded segments", inLoadedSegments},
		{"put anew in the buffer", putAnew},
		{"put anew behind Flush", putAnewBehindFlush},
		{"taken away and put again", putAgain},
		{"beside what was taken away", besideGone},
	} {
		t.Run(way.what, func(t *testing.T) {
			e := hint.New()
			way.make(t, e, rows)
			ask(t, e)
		})
	}
}

func inOneSegment(t *testing.T, e *hint.Engine, rows []row) {
	putAll(t, e, rows)
	flush(t, e)
}

// inManySegments leaves something in the buffer, too, if there is enough.
func inManySegments(t *testing.T, e *hint.Engine, rows []row) {
	each := max(1, len(rows)/7)
	for i, r := range rows {
		r.put(t, e)
		if (i+1)%each == 0 && e.Segments() < 6 {
			flush(t, e)
		}
	}
}

func inMergedSegments(t *testing.T, e *hint.Engine, rows []row) {
	for i, r := range rows {
		r.put(t, e)
		flush(t, e)
		if e.Segments() == 4 {
			merge(t, e, i%3)
		}
	}
}

func inLoadedSegments(t *testing.T, e *hint.Engine, rows []row) {
	from := hint.New()
	inManySegments(t, from, rows)
	from.Merge(0)
	from.Flush()
	for i := range from.Segments() {
		packed, err := from.Dump(i)
		want(t, "Dump", err, hint.OK)
		load(t, e, packed)
	}
}

func putAnew(t *testing.T, e *hint.Engine, rows []row) {
	for _, r := range rows {
		r.other().put(t, e)
		r.put(t, e)
	}
}

func putAnewBehindFlush(t *testing.T, e *hint.Engine, rows []row) {
	for i, r := range rows {
		r.other().put(t, e)
		if i%4 == 0 && e.Segments() < 6 {
			flush(t, e)
		}
		r.put(t, e)
	}
}

func putAgain(t *testing.T, e *hint.Engine, rows []row) {
	for i, r := range rows {
		r.other().put(t, e)
		if i%3 == 0 && e.Segments() < 5 {
			flush(t, e)
		}
		remove(t, e, r.name)
		if i%2 == 0 && e.Segments() < 6 {
			e.Flush()
		}
		r.put(t, e)
	}
}

// besideGone has the same texts under other names, which are taken away in
// segments and in the buffer.
func besideGone(t *testing.T, e *hint.Engine, rows []row) {
	for i, r := range rows {
		twin := r
		twin.name = numbered("gone", i)
		twin.put(t, e)
		if i < 3 {
			flush(t, e)
		}
		remove(t, e, twin.name)
		if i < 2 {
			e.Flush()
		}
		r.put(t, e)
	}
}

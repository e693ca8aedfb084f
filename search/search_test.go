package search

import (
	"runtime"
	"slices"
	"strconv"
	"testing"
	"time"

	"hint/layer"
	"hint/match"
	"hint/packed"
)

var all = Wanted{Mode: match.Whole}

func says(gone []string, entries ...layer.Entry) layer.Layer {
	l := layer.Layer{}
	for _, name := range gone {
		l.TakeAway(name)
	}
	for _, entry := range entries {
		l.Put(entry)
	}
	return l
}

func found(t *testing.T, what string, layers []layer.Layer, wanted Wanted, want ...layer.Entry) {
	t.Helper()
	var segments []string
	for _, l := range layers[:len(layers)-1] {
		segments = append(segments, packed.Pack(l))
	}
	if got := Entries(segments, layers[len(layers)-1], wanted); !slices.Equal(got, want) {
		t.Errorf("%s: %v, want %v", what, got, want)
	}
}

func TestEntriesInTheirOrder(t *testing.T) {
	a := layer.Entry{Name: "a", Text: "Abc", Weight: 5, Tags: 1}
	b := layer.Entry{Name: "b", Text: "ab", Weight: 5, Tags: 3}
	c := layer.Entry{Name: "c", Text: "aBC", Weight: 5, Tags: 2}
	d := layer.Entry{Name: "d", Text: "abd", Weight: 6}
	e := layer.Entry{Name: "e", Text: "b", Weight: 7}
	for _, layers := range [][]layer.Layer{
		{says(nil, a, b, c, d, e)},
		{says(nil, a, b, c, d, e), says(nil)},
		{says(nil, e), says(nil, a, c), says(nil, b, d)},
		{says(nil, a), says(nil, b), says(nil, c), says(nil, d), says(nil, e), says([]string{"x"}), says(nil)},
		{says([]string{"x"}), says(nil, e), says(nil, d), says(nil, c), says(nil, b), says(nil, a), says([]string{"y"})},
	} {
		found(t, "all", layers, all, e, d, b, a, c)
		found(t, "a query", layers, Wanted{Mode: match.Whole, Query: "abc"}, a, c)
		found(t, "a tag", layers, Wanted{Tags: 1}, b, a)
		found(t, "two tags", layers, Wanted{Tags: 3}, b)
		found(t, "a tag that none has", layers, Wanted{Tags: 4})
		found(t, "a query and a tag", layers, Wanted{Query: "abc", Tags: 2}, c)
		found(t, "a mode", layers, Wanted{Mode: match.OneChange, Query: "xbd"}, d)
	}
	found(t, "nothing", []layer.Layer{nil}, all)
}

// TestNewerSayingsHide: be they gone, or entries that are not wanted.
func TestNewerSayingsHide(t *testing.T) {
	older := layer.Entry{Name: "n", Text: "old", Weight: 9, Tags: 1}
	newer := layer.Entry{Name: "n", Text: "new"}
	other := layer.Entry{Name: "m", Text: "old"}
	for _, layers := range [][]layer.Layer{
		{says(nil, older), says(nil, newer, other)},
		{says(nil, older), says(nil, newer), says(nil, other)},
		{says(nil, other, older), says([]string{"n"}), says(nil, newer)},
	} {
		found(t, "both", layers, all, newer, other)
		found(t, "the older text", layers, Wanted{Query: "old"}, other)
		found(t, "the newer text", layers, Wanted{Query: "new"}, newer)
		found(t, "the older tag", layers, Wanted{Tags: 1})
	}
	found(t, "gone", []layer.Layer{says(nil, older), says(nil, newer), says([]string{"n"})}, all)
	found(t, "gone in between", []layer.Layer{says(nil, older), says([]string{"n"}), says(nil, other)}, all, other)
	found(t, "gone of old", []layer.Layer{says([]string{"n"}), says(nil, older), says(nil)}, all, older)
}

// TestSameWhicheverComesFirst: many turns, with as much as may be.
func TestSameWhicheverComesFirst(t *testing.T) {
	var segments []string
	for number := range layer.MaxSegments {
		l := layer.Layer{}
		for i := range layer.MaxEntries {
			l.Put(layer.Entry{Name: "n" + strconv.Itoa(i*(number+1)%40), Text: strconv.Itoa(i), Weight: number})
		}
		segments = append(segments, packed.Pack(l))
	}
	buffer := says([]string{"n0", "n7", "none"}, layer.Entry{Name: "n1", Text: "1"})
	want := Entries(segments, buffer, all)
	before := runtime.NumGoroutine()
	for range 300 {
		if got := Entries(segments, buffer, all); !slices.Equal(got, want) {
			t.Fatalf("%v, and another time %v", want, got)
		}
	}
	for wait := 0; runtime.NumGoroutine() > before; wait++ {
		if wait == 200 {
			t.Fatalf("goroutines: %d ahead, %d behind", before, runtime.NumGoroutine())
		}
		time.Sleep(10 * time.Millisecond)
	}
}

// TestGatherKeepsPlacesApart: the same place of different segments, and
// different places of the same one.
func TestGatherKeepsPlacesApart(t *testing.T) {
	var sources [7]<-chan meeting
	want := map[place]meeting{}
	for number := range sources {
		out := make(chan meeting, 3)
		for at := range number % 4 {
			m := meeting{place: place{number, at}, name: strconv.Itoa(10*number + at)}
			want[m.place] = m
			out <- m
		}
		close(out)
		sources[number] = out
	}
	got := gather(&sources, len(sources))
	if len(got) != len(want) {
		t.Errorf("%d meetings, want %d", len(got), len(want))
	}
	for where, m := range want {
		if got[where] != m {
			t.Errorf("at %v: %v, want %v", where, got[where], m)
		}
	}
}

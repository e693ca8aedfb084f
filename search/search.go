// Package search asks the buffer and all segments of an engine at the same
// time for the entries that somebody may mean.
package search

import (
	"maps"
	"slices"

	"hint/layer"
	"hint/match"
	"hint/packed"
	"hint/texts"
)

// Wanted is what an entry must be like to be found.
type Wanted struct {
	Mode  match.Mode
	Query string // folded
	Tags  int
}

func (w Wanted) has(entry layer.Entry) bool {
	return entry.Tags&w.Tags == w.Tags && match.Fits(w.Mode, w.Query, texts.Fold(entry.Text))
}

// place is where something is said of a name: the number of a segment, and a
// place in it. The buffer has the number behind the newest segment's.
type place struct {
	segment int
	at      int
}

// meeting is what a search meets at a place. Names that are gone or not wanted
// are met, too, for they hide what older segments say of them.
type meeting struct {
	place  place
	name   string
	wanted bool
	entry  layer.Entry // has a meaning only if wanted
}

// Entries answers the entries that are there and wanted, in their order. There
// are at most layer.MaxSegments packed segments, the oldest first.
func Entries(segments []string, buffer layer.Layer, wanted Wanted) []layer.Entry {
	var sources [layer.MaxSegments + 1]<-chan meeting
	for number, segment := range segments {
		sources[number] = askSegment(number, segment, wanted)
	}
	sources[len(segments)] = askBuffer(len(segments), buffer, wanted)
	found := counting(gather(&sources, len(segments)+1))
	slices.SortFunc(found, layer.Compare)
	return found
}

// askSegment sends all that a segment says, and closes the channel last of
// all. An engine keeps no segment that cannot be read, so there is no fault to
// ask for.
func askSegment(number int, segment string, wanted Wanted) <-chan meeting {
	out := make(chan meeting)
	go func() {
		defer close(out)
		packed.Each(segment, func(at int, name string, saying layer.Saying) {
			out <- meet(place{number, at}, name, saying, wanted)
		})
	}()
	return out
}

// askBuffer does the same for the buffer, where a place is one in the order of
// names.
func askBuffer(number int, buffer layer.Layer, wanted Wanted) <-chan meeting {
	out := make(chan meeting)
	go func() {
		defer close(out)
		for at, name := range slices.Sorted(maps.Keys(buffer)) {
			out <- meet(place{number, at}, name, buffer[name], wanted)
		}
	}()
	return out
}

func meet(where place, name string, saying layer.Saying, wanted Wanted) meeting {
	if saying.Gone || !wanted.has(saying.Entry) {
		return meeting{place: where, name: name}
	}
	return meeting{place: where, name: name, wanted: true, entry: saying.Entry}
}

// gather takes what comes till all that are running have ended. It is kept by
// its place, so that it is the same whichever comes first.
func gather(sources *[7]<-chan meeting, running int) map[place]meeting {
	met := map[place]meeting{}
	for running > 0 {
		from, m, open := next(sources)
		if open {
			met[m.place] = m
			continue
		}
		// Nothing comes by a nil channel, not even its end once more.
		sources[from] = nil
		running--
	}
	return met
}

// next takes what comes first, and tells from which source; not open, if it is
// that source's end. The number of sources is written out here, as a select
// has as many cases as are written; it is held against the limit where gather
// is called.
func next(sources *[7]<-chan meeting) (from int, m meeting, open bool) {
	select {
	case m, open = <-sources[0]:
		return 0, m, open
	case m, open = <-sources[1]:
		return 1, m, open
	case m, open = <-sources[2]:
		return 2, m, open
	case m, open = <-sources[3]:
		return 3, m, open
	case m, open = <-sources[4]:
		return 4, m, open
	case m, open = <-sources[5]:
		return 5, m, open
	case m, open = <-sources[6]:
		return 6, m, open
	}
}

// counting answers, in no order, the wanted entries of which no newer segment
// says anything.
func counting(met map[place]meeting) []layer.Entry {
	newest := map[string]int{}
	for where, m := range met {
		newest[m.name] = max(newest[m.name], where.segment)
	}
	var entries []layer.Entry
	for where, m := range met {
		if m.wanted && where.segment == newest[m.name] {
			entries = append(entries, m.entry)
		}
	}
	return entries
}

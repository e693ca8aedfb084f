// Package layer holds what a buffer or a segment says of names: of each name
// that it is gone, or what its entry is.
package layer

import (
	"cmp"
	"maps"

	"hint/texts"
)

// The limits of entries and of layers.
const (
	MaxWeight   = 1000000
	MaxTags     = 255
	MaxEntries  = 30
	MaxGone     = 100
	MaxSegments = 6
)

// Entry is a short text with a weight and tags, known by its name.
type Entry struct {
	Name   string
	Text   string
	Weight int
	Tags   int
}

// Compare orders entries as they are told: below 0, if a comes ahead of b.
func Compare(a Entry, b Entry) int {
	return cmp.Or(
		cmp.Compare(b.Weight, a.Weight),
		cmp.Compare(texts.Fold(a.Text), texts.Fold(b.Text)),
		cmp.Compare(a.Name, b.Name),
	)
}

// Saying is what a layer says of one name. Entry has a meaning only if the
// name is not gone.
type Saying struct {
	Gone  bool
	Entry Entry
}

// Layer is all that a buffer or a segment says, by names. One map for both
// kinds of sayings, so that no name can be there and gone at once.
type Layer map[string]Saying

// Put says that the entry is there.
func (l Layer) Put(entry Entry) {
	l[entry.Name] = Saying{Entry: entry}
}

// TakeAway says that the name is gone.
func (l Layer) TakeAway(name string) {
	l[name] = Saying{Gone: true}
}

// Gone counts the gone names.
func (l Layer) Gone() int {
	gone := 0
	for _, saying := range l {
		if saying.Gone {
			gone++
		}
	}
	return gone
}

// WithoutGone answers a new layer that says the entries alone.
func (l Layer) WithoutGone() Layer {
	entries := Layer{}
	for name, saying := range l {
		if !saying.Gone {
			entries[name] = saying
		}
	}
	return entries
}

// Merge answers a new layer that says of each name what the newest of the
// layers says that speaks of it. The oldest comes first.
func Merge(layers ...Layer) Layer {
	merged := Layer{}
	for _, l := range layers {
		maps.Copy(merged, l)
	}
	return merged
}

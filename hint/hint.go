// Package hint: what somebody who has typed a little may mean: see DOC.md.
package hint

import (
	"slices"
	"strconv"
	"strings"

	"hint/follow"
	"hint/layer"
	"hint/match"
	"hint/packed"
	"hint/search"
	"hint/texts"
)

// Errno is what a call answers: OK or the reason for a refusal.
type Errno int

const (
	OK         Errno = 0
	ErrName    Errno = 1 // no name
	ErrText    Errno = 2 // no text
	ErrArg     Errno = 3 // a number that may not be, or not now
	ErrMany    Errno = 4 // too many entries, segments or words
	ErrAbsent  Errno = 5 // nothing there
	ErrSegment Errno = 6 // no such segment
	ErrPacked  Errno = 7 // no packed segment
)

const (
	maxPacked = 4000
	maxTold   = 20
)

// Engine keeps entries and words.
type Engine struct {
	buffer   layer.Layer
	segments []string // packed ones, the oldest first; none says nothing
	words    follow.Counts
}

// New makes an engine (P3).
func New() *Engine {
	return &Engine{buffer: layer.Layer{}, words: follow.None()}
}

// Upsert puts an entry there (P3).
func (e *Engine) Upsert(name string, text string, weight int, tags int) Errno {
	if !texts.IsName(name) {
		return ErrName
	}
	if !texts.IsText(text) {
		return ErrText
	}
	if weight < 0 || weight > layer.MaxWeight || tags < 0 || tags > layer.MaxTags {
		return ErrArg
	}
	there := e.there()
	if _, known := there[name]; !known && len(there) >= layer.MaxEntries {
		return ErrMany
	}
	// Clones, for the caller's strings may be small pieces of great ones.
	e.buffer.Put(layer.Entry{
		Name:   strings.Clone(name),
		Text:   strings.Clone(text),
		Weight: weight,
		Tags:   tags,
	})
	return OK
}

// Delete takes an entry away (P3).
func (e *Engine) Delete(name string) Errno {
	if !texts.IsName(name) {
		return ErrName
	}
	if _, known := e.there()[name]; !known {
		return ErrAbsent
	}
	if e.buffer.Gone() >= layer.MaxGone {
		return ErrMany
	}
	e.buffer.TakeAway(strings.Clone(name))
	return OK
}

// Flush makes a segment of the buffer (P4).
func (e *Engine) Flush() Errno {
	if len(e.buffer) == 0 {
		return ErrAbsent
	}
	if len(e.segments) >= layer.MaxSegments {
		return ErrMany
	}
	said := e.buffer
	if len(e.segments) == 0 {
		said = said.WithoutGone()
	}
	e.segments = append(e.segments, packUnlessEmpty(said)...)
	e.buffer = layer.Layer{}
	return OK
}

// Merge makes one of two segments (P4).
func (e *Engine) Merge(segment int) Errno {
	if segment < 0 || segment >= len(e.segments)-1 {
		return ErrSegment
	}
	both := layer.Merge(unpackOwn(e.segments[segment]), unpackOwn(e.segments[segment+1]))
	if segment == 0 {
		both = both.WithoutGone()
	}
	if both.Gone() > layer.MaxGone {
		return ErrMany
	}
	e.segments = slices.Replace(e.segments, segment, segment+2, packUnlessEmpty(both)...)
	return OK
}

// Segments tells how many segments there are (P4).
func (e *Engine) Segments() int { return len(e.segments) }

// Dump tells a packed segment (P5).
func (e *Engine) Dump(segment int) (string, Errno) {
	if segment < 0 || segment >= len(e.segments) {
		return "", ErrSegment
	}
	return e.segments[segment], OK
}

// Load takes a packed segment in (P5).
func (e *Engine) Load(packed string) Errno {
	said, sound := unpackStrange(packed)
	if !sound {
		return ErrPacked
	}
	if len(e.buffer) > 0 {
		return ErrArg
	}
	if len(e.segments) >= layer.MaxSegments {
		return ErrMany
	}
	if there := layer.Merge(e.there(), said).WithoutGone(); len(there) > layer.MaxEntries {
		return ErrMany
	}
	// A clone, for the caller's string may be a small piece of a great one.
	e.segments = append(e.segments, strings.Clone(packed))
	return OK
}

// Complete tells the entries that a query fits (P6).
func (e *Engine) Complete(mode int, query string, tags int, most int) ([]string, Errno) {
	if !isMode(mode) || tags < 0 || tags > layer.MaxTags || !mayBeTold(most) {
		return nil, ErrArg
	}
	if !texts.IsTyped(query) {
		return nil, ErrText
	}
	found := search.Entries(e.segments, e.buffer, search.Wanted{
		Mode:  match.Mode(mode),
		Query: texts.Fold(query),
		Tags:  tags,
	})
	var lines []string
	for _, entry := range found[:min(most, len(found))] {
		lines = append(lines, line(entry))
	}
	return lines, OK
}

// Observe counts the words of a text (P7).
func (e *Engine) Observe(text string) Errno {
	if !texts.IsText(text) {
		return ErrText
	}
	if !e.words.Add(wordsOf(text)) {
		return ErrMany
	}
	return OK
}

// Suggest tells the words that may come next (P7).
func (e *Engine) Suggest(text string, most int) ([]string, Errno) {
	if !mayBeTold(most) {
		return nil, ErrArg
	}
	if !texts.IsTyped(text) {
		return nil, ErrText
	}
	return e.words.Next(wordsOf(text), most), OK
}

// there answers the entries that are there.
func (e *Engine) there() layer.Layer {
	var layers []layer.Layer
	for _, segment := range e.segments {
		layers = append(layers, unpackOwn(segment))
	}
	layers = append(layers, e.buffer)
	return layer.Merge(layers...).WithoutGone()
}

func isMode(mode int) bool {
	return mode >= int(match.Whole) && mode <= int(match.TwoChanges)
}

func mayBeTold(most int) bool {
	return most >= 1 && most <= maxTold
}

// wordsOf answers those of what was typed. They are pieces of its folded form,
// which is new, so that they may be kept.
func wordsOf(typed string) []string {
	return texts.Words(texts.Fold(typed))
}

// line answers an entry as Complete tells it.
func line(entry layer.Entry) string {
	return entry.Name + " " + strconv.Itoa(entry.Weight) + " " + entry.Text
}

// unpackOwn reads a segment that an engine keeps. It keeps none that cannot be
// read, so there is no fault to ask for.
func unpackOwn(segment string) layer.Layer {
	said, _ := packed.Unpack(segment)
	return said
}

// unpackStrange reads a segment that may be none; false, if so. Its length is
// asked first, so that what is too long costs nothing.
func unpackStrange(segment string) (layer.Layer, bool) {
	if len(segment) > maxPacked {
		return nil, false
	}
	return packed.Unpack(segment)
}

// packUnlessEmpty answers one segment, or none if there is nothing to say.
func packUnlessEmpty(said layer.Layer) []string {
	if len(said) == 0 {
		return nil
	}
	return []string{packed.Pack(said)}
}

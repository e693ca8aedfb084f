package packed

import "hint/layer"

// damage is what a reader panics with where the bytes are not a packed
// segment. A type of its own, so that no other panic is taken for it.
type damage struct{}

// reader reads a packed segment from its beginning on. Its methods tell of no
// fault but by a panic, so that none of them need look behind itself.
type reader struct {
	packed string
	at     int
}

// Unpack answers what a packed segment says; false, if the bytes end too early
// or too late for one.
func Unpack(packed string) (layer.Layer, bool) {
	said := layer.Layer{}
	sound := guard(func() {
		r := reader{packed: packed}
		r.gone(said)
		r.node(said)
		r.end()
	})
	if !sound {
		return nil, false
	}
	return said, true
}

// guard tells whether the reading went through without damage. Any other panic
// is none of its business, and goes on.
func guard(reading func()) (sound bool) {
	defer func() {
		caught := recover()
		if caught == nil {
			return
		}
		if _, ours := caught.(damage); !ours {
			panic(caught)
		}
		sound = false
	}()
	reading()
	return true
}

func (r *reader) gone(said layer.Layer) {
	for range r.number() {
		said.TakeAway(r.text())
	}
}

// node reads a node and all below it. What an entry says stands in it whole:
// the label and the greatest weight are passed over.
func (r *reader) node(said layer.Layer) {
	r.text()
	r.weight()
	for range r.number() {
		said.Put(r.entry())
	}
	for range r.number() {
		r.node(said)
	}
}

func (r *reader) entry() layer.Entry {
	name := r.text()
	text := r.text()
	weight := r.weight()
	tags := r.number()
	return layer.Entry{Name: name, Text: text, Weight: weight, Tags: tags}
}

func (r *reader) text() string {
	return r.take(r.number())
}

func (r *reader) weight() int {
	b := r.take(3)
	return int(b[0])<<16 | int(b[1])<<8 | int(b[2])
}

func (r *reader) number() int {
	return int(r.take(1)[0])
}

// take answers the next n bytes.
func (r *reader) take(n int) string {
	if n > len(r.packed)-r.at {
		panic(damage{})
	}
	taken := r.packed[r.at : r.at+n]
	r.at += n
	return taken
}

func (r *reader) end() {
	if r.at != len(r.packed) {
		panic(damage{})
	}
}

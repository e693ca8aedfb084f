package packed

import (
	"hint/layer"
	"hint/texts"
)

// damage is what a reader panics with where the bytes are not a packed
// segment. A type of its own, so that no other panic is taken for it.
type damage struct{}

// reader reads a packed segment from its beginning on. Its methods tell of no
// fault but by a panic, so that none of them need look behind itself.
type reader struct {
	packed string
	at     int
	known  map[string]struct{} // the names that something was said of
	tell   func(at int, name string, saying layer.Saying)
}

// Unpack answers what a packed segment says; false, if it is none.
func Unpack(packed string) (layer.Layer, bool) {
	said := layer.Layer{}
	sound := Each(packed, func(_ int, name string, saying layer.Saying) {
		said[name] = saying
	})
	if !sound {
		return nil, false
	}
	return said, true
}

// Each tells all that a packed segment says as it is read, each with its place
// in it. It answers false, and then what was told counts for nothing, if the
// segment is not, byte by byte, what Pack writes of a layer that says
// something and keeps to the limits.
func Each(packed string, tell func(at int, name string, saying layer.Saying)) bool {
	r := reader{packed: packed, known: map[string]struct{}{}, tell: tell}
	return guard(r.segment)
}

// guard tells whether the reading went through without damage. Any other panic
// is none of its business, and goes on.
func guard(reading func()) (sound bool) {
	defer func() {
		caught := recover()
		if caught == nil {
			return
		}
		if _, ours := caught.(damage); !ours {
			panic(caught)
		}
		sound = false
	}()
	reading()
	return true
}

func must(sound bool) {
	if !sound {
		panic(damage{})
	}
}

func (r *reader) segment() {
	gone := r.gone()
	must(r.text() == "")
	r.node("")
	must(r.at == len(r.packed))
	must(len(r.known) > 0)
	must(gone <= layer.MaxGone)
	must(len(r.known)-gone <= layer.MaxEntries)
}

// gone reads the gone names, and answers how many there are.
func (r *reader) gone() int {
	count := r.number()
	last := ""
	for range count {
		at := r.at
		last = r.nameBehind(last)
		r.say(at, last, layer.Saying{Gone: true})
	}
	return count
}

// node reads the rest of a node behind its label, and all below it, and
// answers the greatest weight. The labels down to it are its path.
func (r *reader) node(path string) int {
	// No text is longer, so that nothing but damage is nested deeper.
	must(len(path) <= texts.MaxText)
	greatest := r.weight()
	entries, heaviest := r.entries(path)
	children, heaviestBelow := r.children(path)
	must(greatest == max(heaviest, heaviestBelow))
	must(path == "" || entries > 0 || children > 1)
	return greatest
}

// entries reads the entries of the node that path leads to, and answers how
// many there are and the greatest weight of them.
func (r *reader) entries(path string) (count int, greatest int) {
	count = r.number()
	last := ""
	for range count {
		at := r.at
		last = r.nameBehind(last)
		entry := r.entry(last)
		must(texts.Fold(entry.Text) == path)
		r.say(at, last, layer.Saying{Entry: entry})
		greatest = max(greatest, entry.Weight)
	}
	return count, greatest
}

// children reads the nodes right below the one that path leads to, and answers
// how many there are and the greatest weight of them.
func (r *reader) children(path string) (count int, greatest int) {
	count = r.number()
	last := -1
	for range count {
		label := r.text()
		must(label != "" && int(label[0]) > last)
		last = int(label[0])
		greatest = max(greatest, r.node(path+label))
	}
	return count, greatest
}

// entry reads what follows the name of an entry.
func (r *reader) entry(name string) layer.Entry {
	text := r.text()
	must(texts.IsText(text))
	weight := r.weight()
	must(weight <= layer.MaxWeight)
	return layer.Entry{Name: name, Text: text, Weight: weight, Tags: r.number()}
}

// nameBehind reads a name that nothing was said of yet, and that comes behind
// the last one of its list ("" ahead of the first).
func (r *reader) nameBehind(last string) string {
	name := r.text()
	must(texts.IsName(name) && name > last)
	_, known := r.known[name]
	must(!known)
	return name
}

func (r *reader) say(at int, name string, saying layer.Saying) {
	r.known[name] = struct{}{}
	r.tell(at, name, saying)
}

func (r *reader) text() string {
	return r.take(r.number())
}

func (r *reader) weight() int {
	b := r.take(3)
	return int(b[0])<<16 | int(b[1])<<8 | int(b[2])
}

func (r *reader) number() int {
	return int(r.take(1)[0])
}

// take answers the next n bytes.
func (r *reader) take(n int) string {
	must(n <= len(r.packed)-r.at)
	taken := r.packed[r.at : r.at+n]
	r.at += n
	return taken
}

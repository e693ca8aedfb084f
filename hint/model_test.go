package hint_test

import (
	"fmt"
	"math/big"
	"math/rand"
	"regexp"
	"slices"
	"strconv"
	"strings"
	"testing"

	"hint/hint"
)

// The model is a second, plainer making of P3 to P7: unpacked segments, and a
// tree that grows byte by byte and is pressed together afterwards; a search
// that tries all; words that are counted as pieces of text, and fractions that
// are made as the document has them.

type modelEntry struct {
	name, text   string
	weight, tags int
	gone         bool
}

type modelLayer map[string]modelEntry

type model struct {
	buffer   modelLayer
	segments []modelLayer
	counted  map[string]int64 // of one, two or three words, with blanks between
	words    []string
	all      int64
}

func (m *model) find(name string) (modelEntry, bool) {
	for _, l := range append([]modelLayer{m.buffer}, reversed(m.segments)...) {
		if entry, ok := l[name]; ok {
			return entry, !entry.gone
		}
	}
	return modelEntry{}, false
}

func reversed(layers []modelLayer) []modelLayer {
	layers = slices.Clone(layers)
	slices.Reverse(layers)
	return layers
}

func (m *model) there() []string {
	var names []string
	for _, l := range append(slices.Clone(m.segments), m.buffer) {
		for name := range l {
			if _, ok := m.find(name); ok {
				names = append(names, name)
			}
		}
	}
	slices.Sort(names)
	return slices.Compact(names)
}

func (l modelLayer) goneNames() []string {
	var names []string
	for name, entry := range l {
		if entry.gone {
			names = append(names, name)
		}
	}
	slices.Sort(names)
	return names
}

func (l modelLayer) dropGone() {
	for _, name := range l.goneNames() {
		delete(l, name)
	}
}

func (m *model) upsert(name, text string, weight, tags int) hint.Errno {
	if _, ok := m.find(name); !ok && len(m.there()) == 30 {
		return hint.ErrMany
	}
	m.buffer[name] = modelEntry{name, text, weight, tags, false}
	return hint.OK
}

func (m *model) delete(name string) hint.Errno {
	if _, ok := m.find(name); !ok {
		return hint.ErrAbsent
	}
	if len(m.buffer.goneNames()) == 100 {
		return hint.ErrMany
	}
	m.buffer[name] = modelEntry{gone: true}
	return hint.OK
}

func (m *model) flush() hint.Errno {
	if len(m.buffer) == 0 {
		return hint.ErrAbsent
	}
	if len(m.segments) == 6 {
		return hint.ErrMany
	}
	if len(m.segments) == 0 {
		m.buffer.dropGone()
	}
	if len(m.buffer) > 0 {
		m.segments = append(m.segments, m.buffer)
	}
	m.buffer = modelLayer{}
	return hint.OK
}

func (m *model) merge(n int) hint.Errno {
	if n < 0 || n+1 >= len(m.segments) {
		return hint.ErrSegment
	}
	both := modelLayer{}
	for _, l := range m.segments[n : n+2] {
		for name, entry := range l {
			both[name] = entry
		}
	}
	if n > 0 && len(both.goneNames()) > 100 {
		return hint.ErrMany
	}
	if n == 0 {
		both.dropGone()
	}
	var kept []modelLayer
	for i, l := range m.segments {
		if i == n && len(both) > 0 {
			kept = append(kept, both)
		} else if i < n || i > n+1 {
			kept = append(kept, l)
		}
	}
	m.segments = kept
	return hint.OK
}

func (m *model) load(packed string) hint.Errno {
	l, ok := modelUnpack(packed)
	if !ok {
		return hint.ErrPacked
	}
	if len(m.buffer) > 0 {
		return hint.ErrArg
	}
	after := &model{segments: append(slices.Clone(m.segments), l)}
	if len(after.segments) > 6 || len(after.there()) > 30 {
		return hint.ErrMany
	}
	m.segments = after.segments
	return hint.OK
}

func (m *model) complete(mode int, query string, tags, most int) []string {
	var fitting []modelEntry
	for _, name := range m.there() {
		entry, _ := m.find(name)
		if modelFits(mode, strings.ToLower(query), strings.ToLower(entry.text)) && tags&^entry.tags == 0 {
			fitting = append(fitting, entry)
		}
	}
	// The names are in their order already, and stay so among equals.
	slices.SortStableFunc(fitting, func(a, b modelEntry) int {
		if a.weight != b.weight {
			return b.weight - a.weight
		}
		return strings.Compare(strings.ToLower(a.text), strings.ToLower(b.text))
	})
	var lines []string
	for _, entry := range fitting {
		lines = append(lines, fmt.Sprintf("%s %d %s", entry.name, entry.weight, entry.text))
	}
	return lines[:min(most, len(lines))]
}

func (m *model) observe(text string) hint.Errno {
	words := modelWord.FindAllString(strings.ToLower(text), -1)
	different := append(slices.Clone(m.words), words...)
	slices.Sort(different)
	different = slices.Compact(different)
	if len(different) > 60 {
		return hint.ErrMany
	}
	m.words = different
	m.all += int64(len(words))
	for i := range words {
		m.counted[words[i]]++
		if i > 0 {
			m.counted[words[i-1]+" "+words[i]]++
		}
		if i > 1 {
			m.counted[words[i-2]+" "+words[i-1]+" "+words[i]]++
		}
	}
	return hint.OK
}

func (m *model) score(behind []string, word string) *big.Rat {
	times := func(a, b, part, whole int64) *big.Rat {
		return new(big.Rat).Mul(big.NewRat(a, b), big.NewRat(part, whole))
	}
	if n := len(behind); n > 1 {
		two := behind[n-2] + " " + behind[n-1]
		if part := m.counted[two+" "+word]; part > 0 {
			return times(1, 1, part, m.counted[two])
		}
	}
	if n := len(behind); n > 0 {
		if part := m.counted[behind[n-1]+" "+word]; part > 0 {
			return times(4, 10, part, m.counted[behind[n-1]])
		}
	}
	return times(16, 100, m.counted[word], m.all)
}

func (m *model) suggest(text string, most int) []string {
	behind := modelWord.FindAllString(strings.ToLower(text), -1)
	scores := map[string]*big.Rat{}
	for _, word := range m.words {
		scores[word] = m.score(behind, word)
	}
	// The words are in their order already, and stay so among equals.
	words := slices.Clone(m.words)
	slices.SortStableFunc(words, func(a, b string) int { return scores[b].Cmp(scores[a]) })
	return words[:min(most, len(words))]
}

var modelWord = regexp.MustCompile("[a-z0-9]+")

func modelFits(mode int, query, text string) bool {
	if mode == 1 {
		for _, word := range modelWord.FindAllStringIndex(text, -1) {
			if modelNear(query, text[word[0]:], 0) {
				return true
			}
		}
		return false
	}
	return modelNear(query, text, max(0, mode-1))
}

// modelNear tries every change at every byte.
func modelNear(query, text string, changes int) bool {
	if query == "" || text != "" && query[0] == text[0] && modelNear(query[1:], text[1:], changes) {
		return true
	}
	if changes == 0 {
		return false
	}
	return modelNear(query[1:], text, changes-1) ||
		text != "" && (modelNear(query, text[1:], changes-1) || modelNear(query[1:], text[1:], changes-1))
}

// modelUnpack reads without a look at the form, and then asks whether what was
// read, written anew, is the same.
func modelUnpack(packed string) (modelLayer, bool) {
	l, rest, names := modelLayer{}, packed, 0
	cut := func(n int) string {
		n = min(n, len(rest))
		piece := rest[:n]
		rest = rest[n:]
		return piece
	}
	number := func(bytes int) int {
		n := 0
		for _, b := range []byte(cut(bytes)) {
			n = n*256 + int(b)
		}
		return n
	}
	for range number(1) {
		l[cut(number(1))] = modelEntry{gone: true}
		names++
	}
	for nodes := 1; nodes > 0 && rest != ""; nodes-- {
		cut(number(1))
		number(3)
		for range number(1) {
			name, text := cut(number(1)), cut(number(1))
			l[name] = modelEntry{name: name, text: text, weight: number(3), tags: number(1)}
			names++
		}
		nodes += number(1)
	}
	return l, names == len(l) && l.mayBe() && l.dump() == packed
}

// mayBe tells whether the layer keeps to the limits.
func (l modelLayer) mayBe() bool {
	name, text := regexp.MustCompile("^[a-z0-9]{1,8}$"), regexp.MustCompile("^[ -~]{1,24}$")
	for n, entry := range l {
		if !name.MatchString(n) || !entry.gone && (!text.MatchString(entry.text) || entry.weight > 1000000) {
			return false
		}
	}
	gone := len(l.goneNames())
	return len(l) > 0 && gone <= 100 && len(l)-gone <= 30
}

type modelNode struct {
	label    string
	entries  []modelEntry
	children map[byte]*modelNode
}

func (l modelLayer) dump() string {
	root := &modelNode{children: map[byte]*modelNode{}}
	for _, entry := range l {
		if entry.gone {
			continue
		}
		at := root
		for _, b := range []byte(strings.ToLower(entry.text)) {
			if at.children[b] == nil {
				at.children[b] = &modelNode{label: string([]byte{b}), children: map[byte]*modelNode{}}
			}
			at = at.children[b]
		}
		at.entries = append(at.entries, entry)
	}
	out := string([]byte{byte(len(l.goneNames()))})
	for _, name := range l.goneNames() {
		out += sized(name)
	}
	for b, child := range root.children {
		root.children[b] = child.pressed()
	}
	return out + root.written()
}

func (n *modelNode) pressed() *modelNode {
	for b, child := range n.children {
		n.children[b] = child.pressed()
	}
	if len(n.entries) > 0 || len(n.children) != 1 {
		return n
	}
	for _, child := range n.children {
		child.label = n.label + child.label
		return child
	}
	return nil
}

func (n *modelNode) heaviest() int {
	heaviest := 0
	for _, entry := range n.entries {
		heaviest = max(heaviest, entry.weight)
	}
	for _, child := range n.children {
		heaviest = max(heaviest, child.heaviest())
	}
	return heaviest
}

func (n *modelNode) written() string {
	slices.SortFunc(n.entries, func(a, b modelEntry) int { return strings.Compare(a.name, b.name) })
	out := sized(n.label) + three(n.heaviest()) + string([]byte{byte(len(n.entries))})
	for _, entry := range n.entries {
		out += sized(entry.name) + sized(entry.text) + three(entry.weight) + string([]byte{byte(entry.tags)})
	}
	out += string([]byte{byte(len(n.children))})
	for b := range 256 {
		if child := n.children[byte(b)]; child != nil {
			out += child.written()
		}
	}
	return out
}

func three(n int) string {
	return string([]byte{byte(n / 65536), byte(n / 256 % 256), byte(n % 256)})
}

// TestP3ToP6AgainstTheModel: many calls in a fixed order that looks like none.
// Where flushes are rare, gone names come to their limit; where they are not,
// segments do.
func TestP3ToP6AgainstTheModel(t *testing.T) {
	told := map[string]int{}
	for seed := range int64(30) {
		random := rand.New(rand.NewSource(seed))
		e, m := hint.New(), &model{buffer: modelLayer{}}
		names := 3 + random.Intn(400)
		flushes := []int{2, 5, 300}[seed%3]
		for step := range 1500 {
			call, got, wanted := randomCall(random, e, m, names, flushes)
			if got != wanted {
				t.Fatalf("seed %d, step %d: %s = %d, want %d", seed, step, call, got, wanted)
			}
			if step%20 == 0 && !sameSegments(t, e, m) {
				t.Fatalf("seed %d, step %d", seed, step)
			}
			told[call+strconv.Itoa(int(got))]++
			if step%5 == 0 {
				lines := sameLines(t, random, e, m)
				told["Complete of "+strconv.Itoa(min(lines, 2))]++
			}
		}
	}
	for _, outcome := range []string{"Upsert0", "Upsert4", "Delete0", "Delete4", "Delete5", "Flush0", "Flush4", "Flush5", "Merge0", "Merge4", "Merge6", "Load0", "Load3", "Load4", "Load7", "Complete of 0", "Complete of 1", "Complete of 2"} {
		if told[outcome] == 0 {
			t.Errorf("%s never came about", outcome)
		}
	}
}

// TestP7AgainstTheModel: many texts of few words and of more than may be, with
// calls on entries between them.
func TestP7AgainstTheModel(t *testing.T) {
	told := map[string]int{}
	for seed := range int64(40) {
		random := rand.New(rand.NewSource(seed))
		e, m := hint.New(), &model{counted: map[string]int64{}}
		words := []int{3, 12, 58, 75}[seed%4]
		for step := range 600 {
			text, most := randomWords(random, words), 1+random.Intn(20)
			got, wanted := e.Observe(text), m.observe(text)
			if got != wanted {
				t.Fatalf("seed %d, step %d: Observe(%q) = %d, want %d", seed, step, text, got, wanted)
			}
			told["Observe"+strconv.Itoa(int(got))]++
			randomEntryAsk(random, 20)(e)
			behind := randomWords(random, words)
			behind = behind[:random.Intn(len(behind)+1)]
			list, err := e.Suggest(behind, most)
			if inModel := m.suggest(behind, most); !slices.Equal(list, inModel) || err != hint.OK {
				t.Fatalf("seed %d, step %d: Suggest(%q, %d) = %q, %d, want %q", seed, step, behind, most, list, err, inModel)
			}
			told["Suggest behind "+strconv.Itoa(min(3, len(modelWord.FindAllString(behind, -1))))]++
		}
	}
	for _, outcome := range []string{"Observe0", "Observe4", "Suggest behind 0", "Suggest behind 1", "Suggest behind 2", "Suggest behind 3"} {
		if told[outcome] == 0 {
			t.Errorf("%s never came about", outcome)
		}
	}
}

// randomCall does the same to the engine and to the model.
func randomCall(random *rand.Rand, e *hint.Engine, m *model, names, flushes int) (call string, got, wanted hint.Errno) {
	name := numbered("n", random.Intn(names))
	switch pick := random.Intn(1000); {
	case pick < flushes:
		return "Flush", e.Flush(), m.flush()
	case pick < flushes+8+flushes/3:
		n := random.Intn(8) - 1
		return "Merge", e.Merge(n), m.merge(n)
	case pick < flushes+18+flushes/3:
		packed := randomSegment(random, m, names)
		return "Load", e.Load(packed), m.load(packed)
	case pick < 720:
		text, weight, tags := randomText(random), random.Intn(1000001), random.Intn(256)
		return "Upsert", e.Upsert(name, text, weight, tags), m.upsert(name, text, weight, tags)
	}
	if there := m.there(); len(there) > 0 && random.Intn(8) > 0 {
		name = there[random.Intn(len(there))]
	}
	return "Delete", e.Delete(name), m.delete(name)
}

// randomSegment is packed, and now and then spoilt or above the limits. It
// mostly names what is there, so that there is room for it.
func randomSegment(random *rand.Rand, m *model, names int) string {
	l, there := modelLayer{}, m.there()
	for range random.Intn(34) {
		name := numbered("n", random.Intn(names))
		if len(there) > 0 && random.Intn(4) > 0 {
			name = there[random.Intn(len(there))]
		}
		l[name] = modelEntry{name, randomText(random), random.Intn(1000001), random.Intn(256), false}
	}
	for range random.Intn(1 + random.Intn(110)) {
		l[numbered("n", random.Intn(names))] = modelEntry{gone: true}
	}
	packed := []byte(l.dump())
	if random.Intn(6) == 0 {
		packed[random.Intn(len(packed))] = byte(random.Intn(256))
	}
	return string(packed)
}

func randomText(random *rand.Rand) string {
	const alphabet = "aAbB ~0"
	text := make([]byte, 1+random.Intn(1+random.Intn(24)))
	for i := range text {
		text[i] = alphabet[random.Intn(len(alphabet))]
	}
	return string(text)
}

// randomWords is a text of some of so many words, with signs between them.
func randomWords(random *rand.Rand, words int) string {
	text := ""
	for range 1 + random.Intn(8) {
		word := strconv.FormatInt(int64(10+random.Intn(1+random.Intn(words))), 36)
		if random.Intn(4) == 0 {
			word = strings.ToUpper(word)
		}
		text += word + []string{" ", " ", " ", "-", ", ", "~"}[random.Intn(6)]
	}
	if random.Intn(20) == 0 {
		text = " .?"
	}
	return text[:min(len(text)-random.Intn(2), 24)]
}

// randomQuery is mostly some of a text that is there, with changes.
func randomQuery(random *rand.Rand, m *model) string {
	query, there := randomText(random), m.there()
	if len(there) > 0 && random.Intn(5) > 0 {
		entry, _ := m.find(there[random.Intn(len(there))])
		from := random.Intn(len(entry.text)) * random.Intn(2)
		query = entry.text[from:]
		query = query[:random.Intn(len(query)+1)]
	}
	for range random.Intn(4) {
		at := random.Intn(len(query) + 1)
		less := random.Intn(2) * min(1, len(query)-at)
		query = query[:at] + randomText(random)[:random.Intn(2)] + query[at+less:]
	}
	return query[:min(len(query), 24)]
}

// sameLines answers how many lines there are.
func sameLines(t *testing.T, random *rand.Rand, e *hint.Engine, m *model) int {
	t.Helper()
	mode, query, most := random.Intn(4), randomQuery(random, m), 1+random.Intn(20)
	tags := random.Intn(256) & random.Intn(256) & random.Intn(256) * random.Intn(2)
	wanted := m.complete(mode, query, tags, most)
	if got, err := e.Complete(mode, query, tags, most); !slices.Equal(got, wanted) || err != hint.OK {
		t.Fatalf("Complete(%d, %q, %d, %d) = %q, %d, want %q", mode, query, tags, most, got, err, wanted)
	}
	return len(wanted)
}

func sameSegments(t *testing.T, e *hint.Engine, m *model) bool {
	t.Helper()
	if e.Segments() != len(m.segments) {
		t.Errorf("Segments = %d, want %d", e.Segments(), len(m.segments))
		return false
	}
	for i, l := range m.segments {
		if got, err := e.Dump(i); got != l.dump() || err != hint.OK {
			t.Errorf("Dump(%d) = %q, %d, want %q", i, got, err, l.dump())
			return false
		}
	}
	return true
}
